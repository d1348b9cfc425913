"""Divisors, their sizes and their powers (point 7)."""

from checkrows.division import rest_of
from checkrows.errors import NoDivisor
from checkrows.rows import all_rows, is_row
from checkrows.sums import times_rows

MOST_SIZE = 16


def is_divisor(thing):
    """Whether a thing, whatever it is, is a divisor."""
    if not is_row(thing) or len(thing) < 2 or len(thing) > MOST_SIZE + 1:
        return False
    return thing[0] == 1 and thing[-1] == 1


def need_divisor(thing):
    """Refuses what, whatever it is, is no divisor."""
    if not is_divisor(thing):
        raise NoDivisor("a divisor has 2 to 17 bits, and begins and ends with 1")


def size_of(divisor):
    """How many bits a divisor has, less one."""
    need_divisor(divisor)
    return len(divisor) - 1


def divisors_of(size):
    """The rising list of the divisors of a size."""
    if size < 1 or size > MOST_SIZE:
        return []
    return [(1,) + middle + (1,) for middle in all_rows(size - 1)]


def raised_rest(divisor, base, n):
    """The rest of the product of n times the rest base, n from 0 on."""
    # By squares: n may have thirty figures.
    power = rest_of((1,), divisor)
    square = base
    left = n
    while left > 0:
        if left % 2 == 1:
            power = rest_of(times_rows(power, square), divisor)
        square = rest_of(times_rows(square, square), divisor)
        left = left // 2
    return power


def power_rest(divisor, n):
    """The power of a divisor by n: the rest of 1 with n noughts behind."""
    need_divisor(divisor)
    return raised_rest(divisor, rest_of((1, 0), divisor), n)
