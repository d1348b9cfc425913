"""Halves papers: that no change of few places slips, and the checker that lets them by (point 21)."""

from checkrows.divisors import need_divisor
from checkrows.placesets import sets_of, sets_to
from checkrows.rows import is_number, is_row, is_tuple_of


def is_entry(thing):
    """Whether a thing is a tuple of a row and of a tuple of whole numbers."""
    if not is_tuple_of(thing, 2):
        return False
    rest, places = thing
    return is_row(rest) and isinstance(places, tuple) and all(is_number(place) for place in places)


def are_entries(thing):
    """Whether a thing is a list of such tuples."""
    return isinstance(thing, list) and all(is_entry(entry) for entry in thing)


def halves_of(divisor, length, most):
    """The tuple (first, second) of all sets that a paper has, whatever their rests."""
    half = most // 2
    first = sorted(sets_to(divisor, length, half))
    second = sorted(sets_of(divisor, length, half + 1)) if most % 2 == 1 else []
    return first, second


def rests_apart(first, second):
    """Whether no two rests in first are alike, and none in second stands in first."""
    # Two sets with one rest would make a change that slips, of the places that just one of them has.
    known = {rest: True for rest, places in first}
    return len(known) == len(first) and not any(rest in known for rest, places in second)


def lets_halves(divisor, length, most, paper):
    """Whether a paper, whatever it is, is let by for the divisor, the length and most."""
    need_divisor(divisor)
    if not is_tuple_of(paper, 2):
        return False
    first, second = paper
    # Python holds True for 1, so that the kinds are asked ahead of the worths.
    if not are_entries(first) or not are_entries(second):
        return False
    return paper == halves_of(divisor, length, most) and rests_apart(first, second)


def halves_paper(divisor, length, most):
    """The paper for the divisor, the length and most; None where a change of 1 to most places slips."""
    first, second = halves_of(divisor, length, most)
    if not rests_apart(first, second):
        return None
    return first, second
