"""The common part of two rows, and products of divisors (point 8)."""

from checkrows.division import divided
from checkrows.divisors import MOST_SIZE, size_of
from checkrows.errors import NoFit
from checkrows.rows import noughts, short_row
from checkrows.sums import plus_rows, times_rows


def short_sum(one, other):
    """The sum of two rows of any lengths, noughts put ahead of the shorter one, short."""
    longer = max(len(one), len(other))
    return short_row(plus_rows(noughts(longer - len(one)) + one, noughts(longer - len(other)) + other))


def common_of(one, other):
    """The tuple (part, a, b): the common part, and what makes it of both rows."""
    # All along, first is one times a and other times b, added; so second of c and d.
    first, a, b = short_row(one), (1,), ()
    second, c, d = short_row(other), (), (1,)
    while second != ():
        quotient, rest = divided(first, second)
        first, second = second, short_row(rest)
        a, c = c, short_sum(a, times_rows(quotient, c))
        b, d = d, short_sum(b, times_rows(quotient, d))
    return first, a, b


def product_of(one, other):
    """The product of two divisors, itself a divisor."""
    if size_of(one) + size_of(other) > MOST_SIZE:
        raise NoFit("the sizes of both come to more than a divisor has")
    return times_rows(one, other)
