"""Bursts: how long they are, how many there are and how many slip (point 18)."""

from checkrows.changes import places_in
from checkrows.divisors import size_of


def burst_length(row):
    """The last 1's place of a row less its first one's, and 1; 0 of a row without 1."""
    places = places_in(row)
    if len(places) == 0:
        return 0
    return places[-1] - places[0] + 1


def burst_places(many, long):
    """At how many places of many bits a burst of that length may begin."""
    if long < 1 or long > many:
        return 0
    return many - long + 1


def free_choices(free):
    """How many rows begin and end with 1, with so many bits between; below 0 both are the same 1."""
    return 1 << max(free, 0)


def many_bursts(many, long):
    """How many changes of many bits have that burst length."""
    places = burst_places(many, long)
    # Asked first, for a length of thirty figures would make too great a power.
    if places == 0:
        return 0
    return places * free_choices(long - 2)


def slipping_bursts(divisor, many, long):
    """How many changes of many bits with that burst length slip."""
    size = size_of(divisor)
    places = burst_places(many, long)
    if places == 0 or long <= size:
        return 0
    # What slips is a multiple of the divisor, by a row that begins and ends with 1, too.
    return places * free_choices(long - size - 2)
