"""Checks of rows by a style, bit by bit, and whether a row is whole (points 9 and 10)."""

from checkrows.divisors import size_of
from checkrows.styles import need_style
from checkrows.sums import plus_rows


def bit_step(divisor, held, bit):
    """What the row held, of size bits, comes to by one bit more."""
    lead = held[0] ^ bit
    moved = held[1:] + (0,)
    if lead == 1:
        return plus_rows(moved, divisor[1:])
    return moved


def check_of(style, row):
    """The check of a row by a style."""
    need_style(style)
    divisor, begin, end = style
    held = begin
    for bit in row:
        held = bit_step(divisor, held, bit)
    return plus_rows(held, end)


def checked_row(style, row):
    """The row with its check behind."""
    return row + check_of(style, row)


def is_whole(style, row):
    """Whether the last size bits of a row are the check of those ahead of them."""
    need_style(style)
    ahead = len(row) - size_of(style[0])
    if ahead < 0:
        return False
    return row[ahead:] == check_of(style, row[:ahead])
