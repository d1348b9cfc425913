import unittest

from checkrows.bursts import burst_length
from checkrows.changes import ones_in
from checkrows.checks import checked_row, is_whole
from checkrows.errors import NoFit, NoSheet, NoStyle
from checkrows.rows import row_of
from checkrows.sheets import broken_rows, is_sheet, laid_rows, parted_rows
from checkrows.sums import plus_rows
from tests.helper import NO_ROWS, asked, assert_refused, chance, exchanged, plain_row, some_row, some_style
from tests.test_styles import NO_STYLES

STYLE = ((1, 0, 1, 1), (0, 1, 0), (1, 1, 0))


def some_sheet(dice, k, many):
    return [some_row(dice, many) for step in range(k)]


# How many rows of how many bits, at the bounds too.
SHAPES = [(1, 1), (1, 2), (1, 400), (2, 1), (2, 200), (3, 5), (3, 133), (4, 100), (7, 57), (13, 30), (19, 21), (20, 1),
          (20, 2), (20, 20)]
BEYOND = [(1, 401), (1, 420), (2, 201), (3, 134), (4, 101), (7, 58), (13, 31), (19, 22), (20, 21), (21, 1), (21, 19),
          (20, 400), (400, 1)]


def no_sheets():
    things = list(NO_ROWS) + [(), (0,), (1, 1), ((1, 0), (0, 1)), ((1, 0),), ((),), [()], [(), ()], [()] * 20]
    things += [[(1,) * many] * k for k, many in BEYOND]
    things += [[(1,), (1, 0)], [(1, 0), (1,)], [(1,), ()], [(), (1,)], [(1, 0), (0, 1), (1, 0, 0)],
               [(1, 0)] * 19 + [(1,)]]
    things += [[[1, 0], [0, 1]], [(1, 0), [0, 1]], [[1, 0], (0, 1)], [[(1, 0)]], [((1, 0),)], [(1, 0), ((0, 1),)]]
    things += [{0: (1, 0)}, {(1, 0): (0, 1)}, "10\n01", ["10", "01"], ["1"], [1, 0], [True], [None], [{}], [7]]
    for wrong in NO_ROWS:
        things += [[wrong], [(1, 0), wrong], [wrong, (1, 0)], [(1, 0), (1, 0), wrong, (1, 0)]]
    for wrong in [(True,), (False,), (2,), (-1,), (None,), ("1",)]:
        things += [[wrong], [(1,), wrong], [wrong, (0,)]]
    return things


NO_SHEETS = no_sheets()


class IsSheet(unittest.TestCase):
    def test_sheets(self):
        dice = chance(190)
        for k, many in SHAPES:
            self.assertIs(asked(self, is_sheet, some_sheet(dice, k, many)), True, (k, many))
        self.assertIs(is_sheet([(1,)]), True)
        self.assertIs(is_sheet([(0, 0), (0, 0)]), True)

    def test_beyond_the_bounds(self):
        dice = chance(191)
        for k, many in BEYOND:
            self.assertIs(asked(self, is_sheet, some_sheet(dice, k, many)), False, (k, many))

    def test_of_whatever_it_is(self):
        for thing in NO_SHEETS:
            self.assertIs(asked(self, is_sheet, thing), False, thing)


class LaidRows(unittest.TestCase):
    def test_by_hand(self):
        self.assertEqual(laid_rows([(1,)]), (1,))
        self.assertEqual(laid_rows([(1, 0, 0)]), (1, 0, 0))
        self.assertEqual(laid_rows([(1, 1), (0, 0)]), (1, 0, 1, 0))
        self.assertEqual(laid_rows([(1, 0, 0), (1, 1, 0)]), (1, 1, 0, 1, 0, 0))
        self.assertEqual(laid_rows([(1,), (0,), (0,)]), (1, 0, 0))

    def test_each_bit_at_its_place_and_parted_again(self):
        dice = chance(192)
        for k, many in SHAPES:
            sheet = some_sheet(dice, k, many)
            told = asked(self, laid_rows, sheet)
            self.assertTrue(plain_row(told))
            self.assertEqual(len(told), k * many)
            for number in range(k):
                for at in range(many):
                    self.assertEqual(told[at * k + number], sheet[number][at])
            again = asked(self, parted_rows, told, k)
            self.assertEqual(repr(again), repr(sheet))

    def test_no_sheet(self):
        for thing in NO_SHEETS:
            assert_refused(self, NoSheet, laid_rows, thing)


class PartedRows(unittest.TestCase):
    def test_by_hand(self):
        self.assertEqual(parted_rows((1,), 1), [(1,)])
        self.assertEqual(parted_rows((1, 0, 1, 0), 1), [(1, 0, 1, 0)])
        self.assertEqual(parted_rows((1, 0, 1, 0), 2), [(1, 1), (0, 0)])
        self.assertEqual(parted_rows((1, 0, 1, 0), 4), [(1,), (0,), (1,), (0,)])
        self.assertEqual(parted_rows((1, 1, 0, 1, 0, 0), 2), [(1, 0, 0), (1, 1, 0)])

    def test_every_k_and_length(self):
        dice = chance(193)
        for many in list(range(45)) + [100, 399, 400, 401, 418, 419, 420]:
            row = some_row(dice, many)
            for k in range(1, 21):
                if many == 0 or many % k:
                    assert_refused(self, NoFit, parted_rows, row, k)
                    continue
                told = asked(self, parted_rows, row, k)
                self.assertIs(type(told), list)
                self.assertEqual(len(told), k)
                for number, part in enumerate(told):
                    self.assertTrue(plain_row(part))
                    self.assertEqual(list(part), [row[at] for at in range(many) if at % k == number])
                if many <= 400:
                    self.assertEqual(laid_rows(told), row)

    def test_of_no_bits(self):
        for k in range(1, 21):
            assert_refused(self, NoFit, parted_rows, (), k)

    def test_somewhat_beyond(self):
        self.assertEqual(parted_rows((1, 0) * 21, 21), [(1, 0), (0, 1)] * 10 + [(1, 0)])
        self.assertEqual(len(parted_rows((0,) * 420, 420)), 420)
        for k in [0, -1, -2]:
            assert_refused(self, NoFit, parted_rows, (1, 0), k)
            assert_refused(self, NoFit, parted_rows, (), k)

    def test_a_told_list_is_the_askers_own(self):
        parted_rows((1, 0, 1, 0), 2).clear()
        self.assertEqual(parted_rows((1, 0, 1, 0), 2), [(1, 1), (0, 0)])


class BrokenRows(unittest.TestCase):
    def check(self, style, sheet, right):
        told = asked(self, broken_rows, style, sheet)
        self.assertIs(type(told), list)
        self.assertEqual(repr(told), repr(right), (style, sheet))

    def test_by_hand(self):
        style = ((1, 1), (0,), (0,))
        self.check(style, [(1, 1)], [])
        self.check(style, [(1, 0)], [0])
        self.check(style, [(1, 1), (1, 0), (0, 0), (0, 1)], [1, 3])

    def test_whole_rows_one_and_several_changed(self):
        dice = chance(194)
        for size in range(1, 17):
            for k in [1, 2, 5, 20]:
                style = some_style(dice, size)
                many = dice.randrange(400 // k - size + 1) if 400 // k >= size else 0
                sheet = [checked_row(style, some_row(dice, many)) for step in range(k)]
                self.assertTrue(is_sheet(sheet))
                self.check(style, sheet, [])
                for number in {0, k // 2, k - 1}:
                    changed = list(sheet)
                    changed[number] = exchanged(sheet[number], dice.randrange(len(sheet[number])))
                    self.check(style, changed, [number])
                several = sorted({dice.randrange(k) for step in range(3)})
                changed = [exchanged(row, 0) if number in several else row for number, row in enumerate(sheet)]
                self.check(style, changed, several)
                self.check(style, [exchanged(row, len(row) - 1) for row in sheet], list(range(k)))

    def test_any_rows(self):
        dice = chance(195)
        for k, many in SHAPES:
            style, sheet = some_style(dice, dice.choice([1, 2, 3])), some_sheet(dice, k, many)
            self.check(style, sheet, [number for number in range(k) if not is_whole(style, sheet[number])])

    def test_rows_of_fewer_bits_than_the_size(self):
        self.check(STYLE, [(1, 0), (0, 1), (1, 1)], [0, 1, 2])

    def test_a_told_list_is_the_askers_own(self):
        sheet = [(1, 0, 0, 0), (0, 0, 1, 1)]
        right = repr(broken_rows(STYLE, sheet))
        broken_rows(STYLE, sheet).append(9)
        self.assertEqual(repr(broken_rows(STYLE, sheet)), right)

    def test_no_sheet(self):
        for thing in NO_SHEETS:
            assert_refused(self, NoSheet, broken_rows, STYLE, thing)

    def test_no_style_ahead_of_no_sheet(self):
        for thing in NO_STYLES:
            for sheet in [[(1, 0, 1, 1)], [], None, [()], ((1, 0),)]:
                assert_refused(self, NoStyle, broken_rows, thing, sheet)


class BurstsOverSheets(unittest.TestCase):
    def check(self, style, sheet, change):
        k = len(sheet)
        told = broken_rows(style, parted_rows(plus_rows(laid_rows(sheet), change), k))
        touched = [number for number, part in enumerate(parted_rows(change, k)) if ones_in(part)]
        self.assertEqual(told, touched, (style, sheet, change))

    def test_every_short_burst(self):
        dice = chance(196)
        for size, k, many in [(1, 1, 3), (1, 3, 2), (2, 2, 3), (2, 3, 3), (3, 2, 4)]:
            for step in range(3):
                style = some_style(dice, size)
                sheet = [checked_row(style, some_row(dice, many - size)) for step in range(k)]
                for number in range(1, 2 ** (k * many)):
                    change = row_of(k * many, number)
                    if burst_length(change) <= k * size:
                        self.check(style, sheet, change)

    def test_bursts_at_the_bound_in_long_sheets(self):
        dice = chance(197)
        for size, k, many in [(16, 20, 20), (8, 4, 100), (5, 13, 30), (16, 1, 400), (1, 20, 20)]:
            style = some_style(dice, size)
            sheet = [checked_row(style, some_row(dice, many - size)) for step in range(k)]
            for step in range(20):
                at = dice.randrange(k * many - k * size + 1)
                burst = (1,) + some_row(dice, k * size - 2) + (1,) if k * size > 1 else (1,)
                change = (0,) * at + burst + (0,) * (k * many - at - len(burst))
                self.check(style, sheet, change)
