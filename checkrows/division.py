"""Long division of rows, without carries (point 6)."""

from checkrows.errors import NoDivisor
from checkrows.rows import is_row, noughts


def need_leading_one(by):
    """Refuses what, whatever it is, is no row that begins with 1."""
    if not is_row(by) or by[:1] != (1,):
        raise NoDivisor("only a row that begins with 1 divides")


def divided(row, by):
    """The tuple (quotient, rest) of a row divided by one that begins with 1."""
    need_leading_one(by)
    left = list(row)
    quotient = []
    for at in range(len(row) - len(by) + 1):
        lead = left[at]
        quotient.append(lead)
        if lead == 1:
            for behind, bit in enumerate(by):
                left[at + behind] = left[at + behind] ^ bit
    # A row shorter than the rest is the rest itself, but for noughts ahead.
    ahead = noughts(len(by) - 1 - len(row))
    return tuple(quotient), ahead + tuple(left[len(quotient):])


def rest_of(row, by):
    """The rest of a row divided by one that begins with 1."""
    return divided(row, by)[1]
