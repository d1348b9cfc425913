"""The best divisors of a size for a length (point 23)."""

from checkrows.divisors import divisors_of
from checkrows.leasts import least_of


def least_number(divisor, length):
    """The fewest 1s of a change of the length that slips; 0 where none does."""
    least = least_of(divisor, length)
    return 0 if least is None else least[0]


def best_of(size, length):
    """The tuple (number, divisors): the greatest least of the size, and the rising list of those that have it."""
    leasts = [(least_number(divisor, length), divisor) for divisor in divisors_of(size)]
    number = max([least for least, divisor in leasts], default=0)
    return number, [divisor for least, divisor in leasts if least == number]
