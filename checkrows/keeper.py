"""A kept row: deeds at it, taken back and done again (point 27)."""

from checkrows.checks import check_of, is_whole
from checkrows.errors import NoBack, NoFit, NoNumber, NoPlace, NoRow
from checkrows.rows import MOST_BITS, is_number, is_row
from checkrows.styles import need_style

MOST_KEPT = 400


def need_row(thing):
    """Refuses what, whatever it is, is no row."""
    if not is_row(thing):
        raise NoRow("a row is a tuple of at most 420 bits")


def need_room(many):
    """Refuses more bits than a keeper keeps."""
    if many > MOST_KEPT:
        raise NoFit("a kept row has at most 400 bits")


class Keeper:
    """A row kept with a style."""

    def __init__(self, style, row):
        need_style(style)
        need_row(row)
        need_room(len(row))
        self.style = style
        self.bits = row
        # The rows ahead of each deed not yet taken back, and behind each one that may be done again.
        self.before = []
        self.undone = []

    def keep(self, bits):
        """Keeps these bits by a new deed, and tells the check."""
        self.before.append(self.bits)
        self.undone = []
        self.bits = bits
        return self.check()

    def put(self, bits):
        """Puts bits behind the row."""
        need_row(bits)
        need_room(len(self.bits) + len(bits))
        return self.keep(self.bits + bits)

    def off(self, many):
        """Takes so many bits off the end of the row."""
        if not is_number(many) or many < 0 or many > len(self.bits):
            raise NoNumber("the row has not so many bits")
        return self.keep(self.bits[:len(self.bits) - many])

    def change(self, place, bits):
        """Lets bits stand in the row from a place on, in the place of as many."""
        need_row(bits)
        if not is_number(place) or place < 0 or place + len(bits) > len(self.bits):
            raise NoPlace("the row has no such place for so many bits")
        return self.keep(self.bits[:place] + bits + self.bits[place + len(bits):])

    def back(self):
        """Takes the last deed back."""
        if len(self.before) == 0:
            raise NoBack("there is no deed to take back")
        self.undone.append(self.bits)
        self.bits = self.before.pop()
        return self.check()

    def again(self):
        """Does the deed that was taken back last again."""
        if len(self.undone) == 0:
            raise NoBack("there is no deed to do again")
        self.before.append(self.bits)
        self.bits = self.undone.pop()
        return self.check()

    def row(self):
        """The row as it is now."""
        return self.bits

    def check(self):
        """The check of the row as it is now."""
        return check_of(self.style, self.bits)

    def many(self):
        """How many bits the row has now."""
        return len(self.bits)

    def whole(self, bits):
        """Whether the row with bits, whatever they are, behind it is whole."""
        if not is_row(bits) or len(self.bits) + len(bits) > MOST_BITS:
            return False
        return is_whole(self.style, self.bits + bits)
