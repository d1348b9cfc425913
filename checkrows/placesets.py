"""Sets of places of a length, with the rests of the rows that have 1 just there."""

from checkrows.divisors import power_rest, size_of
from checkrows.moves import moved_on
from checkrows.rows import noughts
from checkrows.sums import plus_rows


def place_rests(divisor, length):
    """The list, by places, of the rests of the rows of the length with a single 1."""
    rests = []
    rest = power_rest(divisor, 0)
    for step in range(length):
        rests.append(rest)
        rest = moved_on(divisor, rest)
    # Walked from the last place to the first one.
    return rests[::-1]


def longer_sets(rests, sets):
    """The tuples (rest, places) of sets with one place more, behind all others."""
    longer = []
    for rest, places in sets:
        low = places[-1] + 1 if len(places) > 0 else 0
        for place in range(low, len(rests)):
            longer.append((plus_rows(rest, rests[place]), places + (place,)))
    return longer


def sets_of(divisor, length, many):
    """The list of tuples (rest, places), for all sets of so many places."""
    rests = place_rests(divisor, length)
    sets = [(noughts(size_of(divisor)), ())]
    for step in range(many):
        sets = longer_sets(rests, sets)
    return sets


def sets_to(divisor, length, most):
    """The list of tuples (rest, places), for all sets of at most so many places."""
    sets = []
    for many in range(most + 1):
        sets.extend(sets_of(divisor, length, many))
    return sets
