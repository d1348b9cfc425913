"""How many rows of a far length with few 1s a divisor divides, by its choosings (point 30)."""

from checkrows.choosings import places_met
from checkrows.divisors import size_of


def choices_of(many, out_of):
    """How many choices of so many there are."""
    if many > out_of:
        return 0
    choices = 1
    for step in range(many):
        # What is had by now is a number of choices itself, so that nothing is left over.
        choices = choices * (out_of - step) // (step + 1)
    return choices


def signed_sum(length, met, w):
    """What one choosing that meets so many places of the length adds to the far weight of w."""
    total = 0
    for i in range(w + 1):
        choices = choices_of(i, met) * choices_of(w - i, length - met)
        total = total - choices if i % 2 == 1 else total + choices
    return total


def far_weight(divisor, length, w):
    """How many rows of the length with w 1s the divisor divides."""
    total = sum(signed_sum(length, met, w) for met in places_met(divisor, length))
    return total >> size_of(divisor)
