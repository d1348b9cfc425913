"""Rows: tuples of bits, and their numbers (point 4)."""

from checkrows.errors import NoNumber

MOST_BITS = 420


def is_number(thing):
    """Whether a thing is a whole number."""
    # A truth is an int to Python, but no number here.
    return isinstance(thing, int) and not isinstance(thing, bool)


def is_tuple_of(thing, many):
    """Whether a thing is a tuple of so many things."""
    return isinstance(thing, tuple) and len(thing) == many


def is_bit(thing):
    """Whether a thing is a bit."""
    return is_number(thing) and thing in (0, 1)


def is_row(thing):
    """Whether a thing, whatever it is, is a row."""
    if not isinstance(thing, tuple) or len(thing) > MOST_BITS:
        return False
    return all(is_bit(part) for part in thing)


def row_of(many, number):
    """The row of so many bits that has this number."""
    if not is_number(many) or many < 0 or many > MOST_BITS:
        raise NoNumber("no row has so many bits")
    if not is_number(number) or number < 0 or number >> many > 0:
        raise NoNumber("no row of so many bits has this number")
    return tuple((number >> (many - 1 - at)) & 1 for at in range(many))


def number_of(row):
    """The number of a row."""
    number = 0
    for bit in row:
        number = 2 * number + bit
    return number


def short_row(row):
    """The row without the noughts ahead of its first 1."""
    for at, bit in enumerate(row):
        if bit == 1:
            return row[at:]
    return ()


def noughts(many):
    """The row of so many noughts, none where many is below 0."""
    return (0,) * many


def all_rows(many):
    """The list of all rows of so many bits, by their numbers."""
    rows = [()]
    for step in range(many):
        rows = [row + (bit,) for row in rows for bit in (0, 1)]
    return rows
