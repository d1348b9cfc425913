"""The check of a row with a changed middle (point 14)."""

from checkrows.division import rest_of
from checkrows.divisors import size_of
from checkrows.moves import moved_rest
from checkrows.styles import need_style
from checkrows.sums import plus_rows


def changed_check(style, check, old, new, behind):
    """The check of a row in which new stands now, behind bits from its end, where old stood."""
    need_style(style)
    divisor = style[0]
    change = rest_of(plus_rows(old, new), divisor)
    # A check is of the row with size noughts behind, so the change is moved by these, too.
    return plus_rows(check, moved_rest(divisor, change, behind + size_of(divisor)))
