"""The round of a divisor (point 15)."""

from checkrows.divisors import power_rest
from checkrows.moves import moved_on


def comes_round(divisor, n):
    """Whether the power of a divisor by n is that by 0."""
    return power_rest(divisor, n) == power_rest(divisor, 0)


def round_of(divisor):
    """The least whole number from 1 on by which the power of a divisor is that by 0."""
    start = power_rest(divisor, 0)
    n = 1
    held = moved_on(divisor, start)
    while held != start:
        held = moved_on(divisor, held)
        n = n + 1
    return n
