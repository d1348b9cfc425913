"""How far no change of few places slips (point 31)."""

from checkrows.divisors import size_of
from checkrows.placesets import place_rests
from checkrows.rows import noughts
from checkrows.sums import plus_rows

MOST_FAR = 400


def grown_fewest(fewest, rest, most):
    """By the rests to which at most so many places come, the fewest such, with a place of that rest, too."""
    grown = {known: fewest[known] for known in fewest}
    for known in fewest:
        many = fewest[known] + 1
        reached = plus_rows(known, rest)
        if many <= most and (reached not in grown or many < grown[reached]):
            grown[reached] = many
    return grown


def span_of(divisor, number):
    """The greatest length, at most 400, at which no change of fewer places than the number slips."""
    # A change slips where one of its places has the rest to which the others come; these are two fewer, at most.
    most = number - 2
    fewest = {noughts(size_of(divisor)): 0}
    # From the last place on: each length has the places of the shorter ones, and one more.
    for length, rest in enumerate(place_rests(divisor, MOST_FAR)[::-1]):
        if rest in fewest:
            return length
        fewest = grown_fewest(fewest, rest, most)
    return MOST_FAR
