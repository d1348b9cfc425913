"""Changes: which slip, how many 1s they have, and where (point 17)."""

from checkrows.division import rest_of
from checkrows.divisors import need_divisor


def slips(divisor, row):
    """Whether a row has a 1 and the divisor divides it."""
    need_divisor(divisor)
    return 1 in row and 1 not in rest_of(row, divisor)


def ones_in(row):
    """How many 1s a row has."""
    return row.count(1)


def places_in(row):
    """The rising list of the places of a row's 1s, from 0."""
    return [place for place, bit in enumerate(row) if bit == 1]
