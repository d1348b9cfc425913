import unittest

from checkrows.checks import check_of, checked_row, is_whole
from checkrows.errors import NoBack, NoFit, NoNumber, NoPlace, NoRow, NoStyle
from checkrows.keeper import Keeper
from tests.helper import NO_ROWS, asked, assert_refused, chance, exchanged, plain_row, some_row, some_style
from tests.test_checks import walked_check
from tests.test_styles import NO_STYLES

STYLE = ((1, 0, 1, 1), (0, 1, 0), (1, 1, 0))

# No whole number from 0 on, whatever it is.
NO_COUNTS = [thing for thing in NO_ROWS if type(thing) is not int or thing < 0] + [(), (0,), (1,), (1, 0), [0], "0"]


def told_of(keeper):
    """All that a keeper tells of itself."""
    return keeper.row(), keeper.check(), keeper.many()


def steps_left(deed):
    """How many times back, or again, may be asked."""
    many = 0
    while True:
        try:
            deed()
        except NoBack:
            return many
        many += 1


class Told(unittest.TestCase):
    """What the tests of a keeper share."""

    def agree(self, keeper, style, row):
        self.assertEqual(repr(asked(self, keeper.row)), repr(row))
        self.assertEqual(repr(asked(self, keeper.check)), repr(walked_check(style, row)))
        self.assertEqual(repr(asked(self, keeper.many)), repr(len(row)))
        self.assertTrue(plain_row(keeper.check()))

    def done(self, keeper, style, row, deed, *handed):
        """The deed tells the check of the row that is then."""
        self.assertEqual(repr(asked(self, deed, *handed)), repr(walked_check(style, row)))
        self.agree(keeper, style, row)

    def refused(self, keeper, error, deed, *handed):
        """Refused, with what the keeper tells as it was."""
        before = repr(told_of(keeper))
        assert_refused(self, error, deed, *handed)
        self.assertEqual(repr(told_of(keeper)), before)


class Making(Told):
    def test_each_size_and_length(self):
        dice = chance(200)
        for size in range(1, 17):
            for many in [0, 1, size, 100, 399, 400]:
                style, row = some_style(dice, size), some_row(dice, many)
                before = repr((style, row))
                self.agree(Keeper(style, row), style, row)
                self.assertEqual(repr((style, row)), before)

    def test_no_style_ahead_of_all_else(self):
        for thing in NO_STYLES:
            for row in [(), (1, 0), (1,) * 401, (1,) * 421, None, [1], True]:
                assert_refused(self, NoStyle, Keeper, thing, row)

    def test_no_row(self):
        for thing in NO_ROWS:
            assert_refused(self, NoRow, Keeper, STYLE, thing)

    def test_more_than_four_hundred_bits(self):
        for many in range(401, 421):
            assert_refused(self, NoFit, Keeper, STYLE, (0,) * many)
            assert_refused(self, NoFit, Keeper, STYLE, (1,) * many)
        assert_refused(self, NoRow, Keeper, STYLE, (1,) * 421)

    def test_there_is_nothing_to_take_back_at_first(self):
        keeper = Keeper(STYLE, (1, 0))
        self.refused(keeper, NoBack, keeper.back)
        self.refused(keeper, NoBack, keeper.again)


class Put(Told):
    def test_behind_it(self):
        keeper = Keeper(STYLE, ())
        self.done(keeper, STYLE, (1,), keeper.put, (1,))
        self.done(keeper, STYLE, (1, 0, 1), keeper.put, (0, 1))
        self.done(keeper, STYLE, (1, 0, 1), keeper.put, ())
        self.done(keeper, STYLE, (1, 0, 1, 0, 0), keeper.put, (0, 0))

    def test_to_just_four_hundred_and_beyond(self):
        dice = chance(201)
        for first in [0, 1, 200, 399, 400]:
            row, more = some_row(dice, first), some_row(dice, 400 - first)
            keeper = Keeper(STYLE, row)
            for many in [401 - first, 402 - first, 420]:
                if many <= 420:
                    self.refused(keeper, NoFit, keeper.put, (1,) * many)
            self.done(keeper, STYLE, row + more, keeper.put, more)
            self.refused(keeper, NoFit, keeper.put, (0,))
            self.refused(keeper, NoFit, keeper.put, (0,) * 420)
            self.refused(keeper, NoRow, keeper.put, (0,) * 421)
            self.done(keeper, STYLE, row + more, keeper.put, ())

    def test_no_row(self):
        for kept in [(), (1, 0, 1), (1,) * 400]:
            keeper = Keeper(STYLE, kept)
            for thing in NO_ROWS:
                self.refused(keeper, NoRow, keeper.put, thing)


class Off(Told):
    def test_none_some_all(self):
        dice = chance(202)
        for many in [0, 1, 2, 17, 400]:
            for off in {0, min(1, many), many // 2, max(0, many - 1), many}:
                row = some_row(dice, many)
                keeper = Keeper(STYLE, row)
                self.done(keeper, STYLE, row[:many - off], keeper.off, off)
                self.refused(keeper, NoNumber, keeper.off, many - off + 1)

    def test_more_than_there_are(self):
        for many in [0, 1, 17, 400]:
            keeper = Keeper(STYLE, (1,) * many)
            for off in [many + 1, many + 2, 421, 10 ** 29]:
                self.refused(keeper, NoNumber, keeper.off, off)

    def test_of_whatever_it_is(self):
        for row in [(), (1,), (1, 0, 1, 1)]:
            keeper = Keeper(STYLE, row)
            for thing in NO_COUNTS:
                self.refused(keeper, NoNumber, keeper.off, thing)


class Change(Told):
    def test_every_place_and_how_many(self):
        dice = chance(203)
        for many in [0, 1, 2, 5, 9]:
            for place in range(many + 3):
                for long in range(many + 3):
                    row, bits = some_row(dice, many), some_row(dice, long)
                    keeper = Keeper(STYLE, row)
                    if place + long > many:
                        self.refused(keeper, NoPlace, keeper.change, place, bits)
                    else:
                        changed = row[:place] + bits + row[place + long:]
                        self.done(keeper, STYLE, changed, keeper.change, place, bits)
                        self.assertEqual(len(changed), many)

    def test_at_either_end_of_long_rows(self):
        dice = chance(204)
        row = some_row(dice, 400)
        for place, bits in [(0, (1 - row[0],)), (399, (1 - row[399],)), (0, some_row(dice, 400)), (400, ()), (0, ()),
                            (390, some_row(dice, 10)), (1, some_row(dice, 399))]:
            keeper = Keeper(STYLE, row)
            changed = row[:place] + bits + row[place + len(bits):]
            self.done(keeper, STYLE, changed, keeper.change, place, bits)
        keeper = Keeper(STYLE, row)
        for place, bits in [(0, (1,) * 401), (0, (1,) * 420), (400, (0,)), (401, ()), (391, (1,) * 10), (10 ** 29, ()),
                            (10 ** 29, (1,))]:
            self.refused(keeper, NoPlace, keeper.change, place, bits)

    def test_no_place_whatever_it_is(self):
        for row in [(), (1,), (1, 0, 1, 1)]:
            keeper = Keeper(STYLE, row)
            for thing in NO_COUNTS:
                for bits in [(), (1,)]:
                    self.refused(keeper, NoPlace, keeper.change, thing, bits)

    def test_no_row_ahead_of_no_place(self):
        keeper = Keeper(STYLE, (1, 0, 1, 1))
        for thing in NO_ROWS:
            for place in [0, 3, 4, 5, -1, True, None, "0", (1,), 10 ** 29]:
                self.refused(keeper, NoRow, keeper.change, place, thing)


class BackAndAgain(Told):
    def test_one_deed_of_each_kind(self):
        row = (1, 0, 1, 1)
        for name, handed, changed in [("put", ((0, 1),), (1, 0, 1, 1, 0, 1)), ("off", (3,), (1,)), ("off", (4,), ()),
                                      ("change", (1, (1, 0)), (1, 1, 0, 1))]:
            keeper = Keeper(STYLE, row)
            self.done(keeper, STYLE, changed, getattr(keeper, name), *handed)
            for step in range(3):
                self.refused(keeper, NoBack, keeper.again)
                self.done(keeper, STYLE, row, keeper.back)
                self.refused(keeper, NoBack, keeper.back)
                self.done(keeper, STYLE, changed, keeper.again)

    def test_deeds_that_change_nothing_are_deeds(self):
        row = (1, 0, 1, 1)
        for name, handed in [("put", ((),)), ("off", (0,)), ("change", (4, ())), ("change", (0, ())),
                             ("change", (0, row))]:
            keeper = Keeper(STYLE, row)
            keeper.put((1,))
            keeper.back()
            self.done(keeper, STYLE, row, getattr(keeper, name), *handed)
            # The put taken back is forgotten, and there is a deed to take back.
            self.refused(keeper, NoBack, keeper.again)
            self.done(keeper, STYLE, row, keeper.back)
            self.refused(keeper, NoBack, keeper.back)
            self.done(keeper, STYLE, row, keeper.again)
            self.refused(keeper, NoBack, keeper.again)

    def test_several_in_turn(self):
        keeper = Keeper(STYLE, (1,))
        rows = [(1,)]
        for step in range(8):
            bits = (step % 2, 1)
            rows.append(rows[-1] + bits)
            keeper.put(bits)
        for row in rows[-2::-1]:
            self.done(keeper, STYLE, row, keeper.back)
        self.refused(keeper, NoBack, keeper.back)
        for row in rows[1:5]:
            self.done(keeper, STYLE, row, keeper.again)
        for row in rows[3:1:-1]:
            self.done(keeper, STYLE, row, keeper.back)
        for row in rows[3:]:
            self.done(keeper, STYLE, row, keeper.again)
        self.refused(keeper, NoBack, keeper.again)

    def test_another_deed_forgets_what_might_be_done_again(self):
        for name, handed, changed in [("put", ((1,),), (1, 0, 1)), ("off", (1,), (1,)), ("change", (0, (0,)), (0, 0))]:
            keeper = Keeper(STYLE, (1, 0))
            keeper.put((1, 1))
            keeper.put((0, 0))
            keeper.back()
            keeper.back()
            self.done(keeper, STYLE, changed, getattr(keeper, name), *handed)
            self.refused(keeper, NoBack, keeper.again)
            self.done(keeper, STYLE, (1, 0), keeper.back)
            self.refused(keeper, NoBack, keeper.back)
            self.done(keeper, STYLE, changed, keeper.again)
            self.refused(keeper, NoBack, keeper.again)

    def test_another_deed_forgets_only_what_was_taken_back(self):
        keeper = Keeper(STYLE, ())
        keeper.put((1,))
        keeper.put((0,))
        keeper.put((1, 1))
        keeper.back()
        self.done(keeper, STYLE, (1,), keeper.off, 1)
        self.done(keeper, STYLE, (1, 0), keeper.back)
        self.done(keeper, STYLE, (1,), keeper.back)
        self.done(keeper, STYLE, (), keeper.back)
        self.refused(keeper, NoBack, keeper.back)
        for row in [(1,), (1, 0), (1,)]:
            self.done(keeper, STYLE, row, keeper.again)
        self.refused(keeper, NoBack, keeper.again)

    def test_what_is_refused_is_no_deed(self):
        wrongs = [("put", (None,), NoRow), ("put", ((1,) * 400,), NoFit), ("off", (9,), NoNumber),
                  ("off", (True,), NoNumber), ("change", (0, [1]), NoRow), ("change", (9, ()), NoPlace),
                  ("change", (False, (1,)), NoPlace)]
        for name, handed, error in wrongs:
            keeper = Keeper(STYLE, (1, 0))
            keeper.put((1, 1))
            keeper.put((0,))
            keeper.back()
            self.refused(keeper, error, getattr(keeper, name), *handed)
            # What was taken back may still be done again, and what was done taken back.
            self.done(keeper, STYLE, (1, 0, 1, 1, 0), keeper.again)
            self.refused(keeper, error, getattr(keeper, name), *handed)
            self.refused(keeper, NoBack, keeper.again)
            self.refused(keeper, error, getattr(keeper, name), *handed)
            self.assertEqual(steps_left(keeper.back), 2)
            self.refused(keeper, error, getattr(keeper, name), *handed)
            self.refused(keeper, NoBack, keeper.back)
            self.assertEqual(steps_left(keeper.again), 2)
            self.agree(keeper, STYLE, (1, 0, 1, 1, 0))

    def test_what_is_asked_is_no_deed(self):
        keeper = Keeper(STYLE, (1, 0))
        keeper.put((1, 1))
        keeper.back()
        keeper.whole((1, 1, 1))
        keeper.row()
        keeper.check()
        keeper.many()
        self.done(keeper, STYLE, (1, 0, 1, 1), keeper.again)
        self.assertEqual(steps_left(keeper.back), 1)


class Whole(Told):
    def ask(self, keeper, bits):
        before = repr(told_of(keeper))
        told = asked(self, keeper.whole, bits)
        self.assertEqual(repr(told_of(keeper)), before)
        return told

    def test_of_the_check_and_of_other_bits(self):
        dice = chance(205)
        for size in range(1, 17):
            for many in [0, 1, size, 40, 400]:
                style, row = some_style(dice, size), some_row(dice, many)
                keeper = Keeper(style, row)
                self.assertIs(self.ask(keeper, keeper.check()), True)
                for at in range(size):
                    self.assertIs(self.ask(keeper, exchanged(keeper.check(), at)), False)
                for long in [0, 1, size - 1, size, size + 1, 20]:
                    bits = some_row(dice, long)
                    self.assertIs(self.ask(keeper, bits), is_whole(style, row + bits))

    def test_more_bits_than_the_check_and_fewer(self):
        dice = chance(206)
        for many in [0, 1, 5, 100]:
            row, more = some_row(dice, many), some_row(dice, 9)
            keeper = Keeper(STYLE, row)
            self.assertIs(self.ask(keeper, more + check_of(STYLE, row + more)), True)
            whole = Keeper(STYLE, checked_row(STYLE, row))
            self.assertIs(self.ask(whole, ()), True)
            most = Keeper(STYLE, checked_row(STYLE, row)[:-1])
            self.assertIs(self.ask(most, checked_row(STYLE, row)[-1:]), True)
            self.assertIs(self.ask(most, exchanged(checked_row(STYLE, row)[-1:], 0)), False)
        for bits in [(), (1,), (1, 0)]:
            self.assertIs(self.ask(Keeper(STYLE, ()), bits), False)

    def test_to_four_hundred_and_twenty_bits_together(self):
        dice = chance(207)
        for many in [0, 1, 300, 399, 400]:
            row = some_row(dice, many)
            keeper = Keeper(STYLE, row)
            for together in [419, 420, 421, 422]:
                more = some_row(dice, together - many - 3)
                bits = more + check_of(STYLE, row + more)
                self.assertIs(self.ask(keeper, bits), together <= 420, (many, together))

    def test_of_what_is_no_row(self):
        for row in [(), (1, 0, 1, 1), (0,) * 400]:
            keeper = Keeper(STYLE, row)
            for thing in NO_ROWS + [list(keeper.check()), tuple(bit == 1 for bit in keeper.check())]:
                self.assertIs(self.ask(keeper, thing), False, thing)


class Keepers(Told):
    def test_two_side_by_side(self):
        other_style = ((1, 1, 1), (1, 1), (0, 1))
        one, other = Keeper(STYLE, (1, 0)), Keeper(other_style, (1, 0))
        twin = Keeper(STYLE, (1, 0))
        one.put((1, 1))
        other.off(1)
        self.agree(one, STYLE, (1, 0, 1, 1))
        self.agree(other, other_style, (1,))
        self.agree(twin, STYLE, (1, 0))
        self.refused(twin, NoBack, twin.back)
        one.back()
        self.refused(other, NoBack, other.again)
        self.done(other, other_style, (1, 0), other.back)
        self.done(one, STYLE, (1, 0, 1, 1), one.again)
        self.agree(other, other_style, (1, 0))
        self.agree(twin, STYLE, (1, 0))

    def test_long_walks_against_lists_of_rows(self):
        for seed in range(210, 216):
            dice = chance(seed)
            style = some_style(dice, dice.randrange(1, 17))
            rows, at = [some_row(dice, dice.choice([0, 5, 395]))], 0
            keeper = Keeper(style, rows[0])
            for step in range(150):
                row = rows[at]
                kind = dice.choice(["put", "off", "change", "back", "back", "again"])
                bits, number = some_row(dice, dice.randrange(7)), dice.randrange(8)
                if kind == "back":
                    right, error, handed = (at - 1 if at > 0 else None), NoBack, ()
                elif kind == "again":
                    right, error, handed = (at + 1 if at + 1 < len(rows) else None), NoBack, ()
                else:
                    if kind == "put":
                        after, handed, error = row + bits, (bits,), NoFit
                        fits = len(after) <= 400
                    elif kind == "off":
                        after, handed, error = row[:len(row) - number], (number,), NoNumber
                        fits = number <= len(row)
                    else:
                        after = row[:number] + bits + row[number + len(bits):]
                        handed, error, fits = (number, bits), NoPlace, number + len(bits) <= len(row)
                    right = at + 1 if fits else None
                    if fits:
                        rows[at + 1:] = [after]
                if right is None:
                    self.refused(keeper, error, getattr(keeper, kind), *handed)
                else:
                    at = right
                    self.done(keeper, style, rows[at], getattr(keeper, kind), *handed)
