"""Sums and products of rows, without carries (point 5)."""

from checkrows.errors import NoFit


def plus_rows(one, other):
    """The sum of two rows of as many bits."""
    if len(one) != len(other):
        raise NoFit("rows of unlike lengths are not added")
    return tuple(first ^ second for first, second in zip(one, other))


def times_rows(one, other):
    """The product of two rows."""
    if one == () or other == ():
        return ()
    bits = [0] * (len(one) + len(other) - 1)
    for at, bit in enumerate(one):
        if bit == 1:
            for behind, second in enumerate(other):
                bits[at + behind] = bits[at + behind] ^ second
    return tuple(bits)
