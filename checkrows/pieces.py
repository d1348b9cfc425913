"""Checks of two pieces put together, and back (point 13)."""

from checkrows.moves import moved_rest
from checkrows.styles import need_style
from checkrows.sums import plus_rows


def reopened(style, check):
    """The check with the style's begin and end added."""
    # Behind a first piece neither its end nor the second one's begin belongs to the row of both.
    # Added twice they are gone, so this is its own way back.
    return plus_rows(check, plus_rows(style[1], style[2]))


def joined_check(style, first, second, many):
    """The check of a first piece with a second one of many bits behind it, by their checks."""
    need_style(style)
    return plus_rows(moved_rest(style[0], reopened(style, first), many), second)


def parted_check(style, both, second, many):
    """The check of the first piece, by that of both and that of the second one, of many bits."""
    need_style(style)
    return reopened(style, moved_rest(style[0], plus_rows(both, second), -many))
