"""The fewest 1s of a change of a length that slips (point 20)."""

from checkrows.divisors import size_of
from checkrows.placesets import place_rests
from checkrows.rows import noughts
from checkrows.sums import plus_rows


def keep_fewer(fewest, rest, places):
    """Keeps the places for the rest where none so few are kept for it."""
    if rest not in fewest or len(places) < len(fewest[rest]):
        fewest[rest] = places


def fewest_places(divisor, length):
    """By rests, the fewest places, at least one, that come to each."""
    fewest = {}
    for place, rest in enumerate(place_rests(divisor, length)):
        grown = {known: fewest[known] for known in fewest}
        keep_fewer(grown, rest, (place,))
        for known in fewest:
            keep_fewer(grown, plus_rows(known, rest), fewest[known] + (place,))
        fewest = grown
    return fewest


def least_of(divisor, length):
    """The tuple (number, change) of a change of the fewest 1s that slips; None where none does."""
    none = noughts(size_of(divisor))
    fewest = fewest_places(divisor, length)
    if none not in fewest:
        return None
    places = fewest[none]
    return len(places), tuple(1 if at in places else 0 for at in range(length))
