"""Styles: tuples (divisor, begin, end) by which rows are checked (point 9)."""

from checkrows.divisors import is_divisor, size_of
from checkrows.errors import NoStyle
from checkrows.rows import is_row, is_tuple_of


def is_style(thing):
    """Whether a thing, whatever it is, is a style."""
    if not is_tuple_of(thing, 3):
        return False
    divisor, begin, end = thing
    if not is_divisor(divisor) or not is_row(begin) or not is_row(end):
        return False
    return len(begin) == size_of(divisor) and len(end) == size_of(divisor)


def need_style(thing):
    """Refuses what, whatever it is, is no style."""
    if not is_style(thing):
        raise NoStyle("a style is a divisor with two rows of as many bits as its size")
