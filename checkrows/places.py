"""Where a row that is not whole may have been changed (point 22)."""

from checkrows.checks import check_of
from checkrows.divisors import size_of
from checkrows.placesets import place_rests, sets_to
from checkrows.styles import need_style
from checkrows.sums import plus_rows


def fault_of(style, row):
    """The rest of any change that makes a row whole; None of fewer than size bits."""
    ahead = len(row) - size_of(style[0])
    if ahead < 0:
        return None
    return plus_rows(row[ahead:], check_of(style, row[:ahead]))


def found_places(style, row):
    """The rising list of the places the change of which alone makes a row whole."""
    need_style(style)
    fault = fault_of(style, row)
    return [place for place, rest in enumerate(place_rests(style[0], len(row))) if rest == fault]


def found_sets(style, row, most):
    """The rising list of the sets of at most most places the change of which makes a row whole."""
    need_style(style)
    fault = fault_of(style, row)
    return sorted([places for rest, places in sets_to(style[0], len(row), most) if rest == fault])
