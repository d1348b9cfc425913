"""How many rows of a length, by their number of 1s, a divisor divides (point 20)."""

from checkrows.divisors import size_of
from checkrows.placesets import place_rests
from checkrows.rows import noughts
from checkrows.sums import plus_rows


def added_counts(one, other):
    """The sums of two lists of numbers, by places."""
    return [first + second for first, second in zip(one, other)]


def with_place(counts, rest):
    """The counts, by rests and by how many 1s, when a place with that rest may have 1, too."""
    grown = {known: counts[known] for known in counts}
    for known in counts:
        moved = plus_rows(known, rest)
        # One 1 more than before; a row has never more than there are bits, so the last one is 0.
        shifted = [0] + counts[known][:-1]
        grown[moved] = added_counts(grown[moved], shifted) if moved in grown else shifted
    return grown


def weights_of(divisor, length):
    """The list, for w from 0 to the length, of how many rows with w 1s the divisor divides."""
    none = noughts(size_of(divisor))
    counts = {none: [1] + [0] * length}
    for rest in place_rests(divisor, length):
        counts = with_place(counts, rest)
    return counts[none]
