"""Rests moved forth and back (point 12)."""

from checkrows.checks import bit_step
from checkrows.division import rest_of
from checkrows.divisors import need_divisor, power_rest, raised_rest
from checkrows.sums import times_rows


def back_power(divisor, n):
    """The rest by which what n noughts behind did is undone, n from 0 on."""
    # The divisor without its last 1 is (1, 0) times this row, so that product leaves the rest 1.
    back = divisor[:-1]
    return raised_rest(divisor, back, n)


def moved_rest(divisor, rest, n):
    """The rest moved by n, any whole number."""
    need_divisor(divisor)
    power = power_rest(divisor, n) if n >= 0 else back_power(divisor, -n)
    return rest_of(times_rows(rest, power), divisor)


def moved_on(divisor, rest):
    """The rest moved by 1, without the squares: for those who walk all rests in turn."""
    return bit_step(divisor, rest, 0)
