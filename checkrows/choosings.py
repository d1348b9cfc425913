"""Choosings of a divisor, and how many places each meets (point 30)."""

from checkrows.divisors import size_of
from checkrows.placesets import place_rests
from checkrows.weights import added_counts


def meetings_of(rest):
    """The list, for all choosings by their numbers, of 1 where one meets a place with that rest, else 0."""
    meetings = [0]
    # From the last bit on: with one bit more the choosings without a 1 there come first, then those with it.
    for bit in rest[::-1]:
        meetings = meetings + [met ^ bit for met in meetings]
    return meetings


def places_met(divisor, length):
    """The list, for all choosings by their numbers, of how many places of the length each meets."""
    met = [0] * (1 << size_of(divisor))
    for rest in place_rests(divisor, length):
        met = added_counts(met, meetings_of(rest))
    return met
