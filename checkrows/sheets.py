"""Sheets: rows laid beside one another, and parted again (point 26)."""

from checkrows.checks import is_whole
from checkrows.errors import NoFit, NoSheet
from checkrows.rows import is_row
from checkrows.styles import need_style

MOST_ROWS = 20
MOST_TOGETHER = 400


def is_sheet(thing):
    """Whether a thing, whatever it is, is a sheet."""
    if not isinstance(thing, list) or len(thing) < 1 or len(thing) > MOST_ROWS:
        return False
    if not all(is_row(row) for row in thing):
        return False
    many = len(thing[0])
    if many < 1 or many * len(thing) > MOST_TOGETHER:
        return False
    return all(len(row) == many for row in thing)


def need_sheet(thing):
    """Refuses what, whatever it is, is no sheet."""
    if not is_sheet(thing):
        raise NoSheet("a sheet is a list of 1 to 20 equally long rows with bits, together at most 400")


def laid_rows(sheet):
    """The row of the first bits of a sheet's rows, then of their second ones, and so on."""
    need_sheet(sheet)
    return tuple(row[at] for at in range(len(sheet[0])) for row in sheet)


def parted_rows(row, k):
    """The list of the k rows that, laid, are the row."""
    # Of fewer than one row nothing comes, so such a k divides nothing.
    if k < 1 or len(row) == 0 or len(row) % k != 0:
        raise NoFit("the bits do not go evenly into so many rows")
    return [row[first::k] for first in range(k)]


def broken_rows(style, sheet):
    """The rising list of the numbers of the rows of a sheet that are not whole."""
    need_style(style)
    need_sheet(sheet)
    return [number for number, row in enumerate(sheet) if not is_whole(style, row)]
