"""Checks of rows many bits a step, by tables (point 11)."""

from checkrows.checks import bit_step
from checkrows.division import rest_of
from checkrows.divisors import size_of
from checkrows.rows import all_rows, noughts, number_of
from checkrows.styles import need_style
from checkrows.sums import plus_rows


def table_of(divisor, width):
    """The list of the rests of all rows of width bits, by their numbers, with size noughts behind."""
    behind = noughts(size_of(divisor))
    return [rest_of(row + behind, divisor) for row in all_rows(width)]


def wide_step(table, held, bits):
    """What the row held, of size bits, comes to by as many bits as the table is wide."""
    size, width = len(held), len(bits)
    # Size and width may each be the greater one: both rows are made equally long at their ends.
    longer = max(size, width)
    both = plus_rows(held + noughts(longer - size), bits + noughts(longer - width))
    moved = both[width:] + noughts(min(size, width))
    return plus_rows(moved, table[number_of(both[:width])])


def check_by(style, width, row):
    """The check of a row by a style, width bits a step."""
    need_style(style)
    divisor, begin, end = style
    table = table_of(divisor, width)
    held = begin
    at = 0
    # A width below 1 would never come to the end: then all bits are left to go one by one.
    while width > 0 and at + width <= len(row):
        held = wide_step(table, held, row[at:at + width])
        at = at + width
    for bit in row[at:]:
        held = bit_step(divisor, held, bit)
    return plus_rows(held, end)
