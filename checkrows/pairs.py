"""Pairs of changed places, and odd changes (point 19)."""

from checkrows.changes import ones_in
from checkrows.divisors import need_divisor
from checkrows.rounds import comes_round


def pair_slips(divisor, apart):
    """Whether a change of two places so far apart slips."""
    return comes_round(divisor, apart)


def odd_told(divisor):
    """Whether no change with an odd number of 1s slips, however long."""
    need_divisor(divisor)
    return ones_in(divisor) % 2 == 0
