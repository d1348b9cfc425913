import unittest

from checkrows.checks import check_of
from checkrows.division import rest_of
from checkrows.errors import NoFit, NoStyle
from checkrows.middles import changed_check
from checkrows.rows import row_of
from checkrows.sums import plus_rows
from tests.helper import asked, assert_refused, chance, plain_row, some_row, some_style
from tests.test_checks import all_styles
from tests.test_styles import NO_STYLES

GREAT = [10 ** 29, 10 ** 30 - 1]
UNLIKE = [((), (0,)), ((1,), ()), ((1, 0), (1, 0, 0)), ((0, 1, 1), (0, 1)), ((0,) * 400, (0,) * 399)]


class ChangedCheck(unittest.TestCase):
    def check(self, style, ahead, old, new, behind):
        check = check_of(style, ahead + old + behind)
        told = asked(self, changed_check, style, check, old, new, len(behind))
        self.assertTrue(plain_row(told))
        self.assertEqual(told, check_of(style, ahead + new + behind), (style, ahead, old, new, behind))

    def test_by_hand(self):
        style = ((1, 0, 1, 1), (0, 0, 0), (0, 0, 0))
        # 1 with three noughts behind leaves 011, with four 110.
        self.assertEqual(changed_check(style, (0, 0, 0), (0,), (1,), 0), (0, 1, 1))
        self.assertEqual(changed_check(style, (0, 0, 0), (1,), (0,), 1), (1, 1, 0))
        self.assertEqual(changed_check(style, (1, 1, 0), (1, 0), (1, 0), 5), (1, 1, 0))

    def test_all_small_styles_and_middles(self):
        for style in all_styles(1) + all_styles(2):
            for number in range(64):
                row = row_of(6, number)
                for behind in range(3):
                    self.check(style, (1, 0, 1), row[:2], row[2:4], row[4:4 + behind])

    def test_each_size_and_place(self):
        dice = chance(80)
        for size in range(1, 17):
            for many, long, more in [(0, 1, 0), (0, 5, 9), (9, 5, 0), (0, 400, 0), (150, 100, 150), (7, size, 3)]:
                ahead, behind = some_row(dice, many), some_row(dice, more)
                self.check(some_style(dice, size), ahead, some_row(dice, long), some_row(dice, long), behind)

    def test_nothing_changed(self):
        dice = chance(81)
        for size in range(1, 17):
            style, check, row = some_style(dice, size), some_row(dice, size), some_row(dice, 12)
            for behind in [0, 1, 100] + GREAT:
                self.assertEqual(changed_check(style, check, (), (), behind), check)
                self.assertEqual(changed_check(style, check, row, row, behind), check)

    def test_behind_of_thirty_figures(self):
        dice = chance(82)
        for size in range(1, 17):
            style, check = some_style(dice, size), some_row(dice, size)
            old, new = some_row(dice, 20), some_row(dice, 20)
            for behind in GREAT:
                told = asked(self, changed_check, style, check, old, new, behind)
                self.assertTrue(plain_row(told))
                self.assertEqual(changed_check(style, told, new, old, behind), check)
                # Thirty bits more behind: the difference is moved by thirty more.
                farther = changed_check(style, check, old, new, behind + 30)
                moved = rest_of(plus_rows(told, check) + (0,) * 30, style[0])
                self.assertEqual(plus_rows(farther, check), moved)

    def test_far_changes_come_round(self):
        style = ((1, 0, 0, 1, 0, 1), (1, 0, 1, 0, 0), (0, 1, 1, 1, 0))
        for behind in GREAT:
            near = changed_check(style, (1, 1, 0, 0, 1), (1, 0, 1), (0, 0, 0), behind % 31)
            self.assertEqual(changed_check(style, (1, 1, 0, 0, 1), (1, 0, 1), (0, 0, 0), behind), near)

    def test_unlike_lengths(self):
        dice = chance(83)
        for size in [1, 3, 16]:
            style = some_style(dice, size)
            for old, new in UNLIKE:
                for behind in [0, 2, 10 ** 29]:
                    assert_refused(self, NoFit, changed_check, style, (0,) * size, old, new, behind)

    def test_no_style_goes_ahead_of_no_fit(self):
        for thing in NO_STYLES:
            for old, new in [((1,), (0,)), ((), ())] + UNLIKE:
                assert_refused(self, NoStyle, changed_check, thing, (0, 1, 0), old, new, 2)
