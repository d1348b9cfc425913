"""Papers of the best, and the checker that lets them by (point 24)."""

from checkrows.best import best_of
from checkrows.changes import ones_in, slips
from checkrows.divisors import divisors_of, is_divisor, size_of
from checkrows.halves import halves_paper, lets_halves
from checkrows.leasts import least_of
from checkrows.rows import is_number, is_row, is_tuple_of


def is_slipping_change(thing, divisor, length, number):
    """Whether a thing is a change of the length that slips, of at most so many 1s."""
    if not is_row(thing) or len(thing) != length:
        return False
    return slips(divisor, thing) and ones_in(thing) <= number


def is_slipping_entry(thing, divisor, length, number):
    """Whether a thing is a tuple of that divisor and of such a change."""
    if not is_tuple_of(thing, 2):
        return False
    told, change = thing
    # Python holds True for 1, so that the kind is asked ahead of the worth.
    if not is_divisor(told) or told != divisor:
        return False
    return is_slipping_change(change, divisor, length, number)


def are_slipping(thing, size, length, number):
    """Whether a thing is a list with such a tuple for each divisor of the size, rising."""
    divisors = divisors_of(size)
    if not isinstance(thing, list) or len(thing) != len(divisors):
        return False
    return all(is_slipping_entry(entry, divisor, length, number) for entry, divisor in zip(thing, divisors))


def lets_best(size, length, paper):
    """Whether a paper, whatever it is, is let by as one of the best of the size for the length."""
    if not is_tuple_of(paper, 4):
        return False
    number, divisor, halves, slipping = paper
    if not is_number(number) or number < 2 or number > size + 1:
        return False
    if not is_divisor(divisor) or size_of(divisor) != size:
        return False
    # The halves show that the divisor does so well, the slipping changes that none does better.
    return lets_halves(divisor, length, number - 1, halves) and are_slipping(slipping, size, length, number)


def best_paper(size, length):
    """The paper of a best divisor of the size for the length; None where no change of the length slips."""
    number, divisors = best_of(size, length)
    if number == 0:
        return None
    best = divisors[0]
    slipping = [(divisor, least_of(divisor, length)[1]) for divisor in divisors_of(size)]
    return number, best, halves_paper(best, length, number - 1), slipping
