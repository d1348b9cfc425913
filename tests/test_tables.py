import unittest

from checkrows.checks import check_of
from checkrows.division import rest_of
from checkrows.errors import NoDivisor
from checkrows.rows import row_of
from checkrows.tables import check_by, table_of
from tests.helper import assert_refused, chance, plain, plain_row, rest_number, some_divisor, some_row, some_style, worth
from tests.test_divisors import NO_DIVISORS


class TableOf(unittest.TestCase):
    def test_by_hand(self):
        self.assertEqual(table_of((1, 1), 1), [(0,), (1,)])
        self.assertEqual(table_of((1, 1), 2), [(0,), (1,), (1,), (0,)])
        self.assertEqual(table_of((1, 0, 1, 1), 2), [(0, 0, 0), (0, 1, 1), (1, 1, 0), (1, 0, 1)])

    def test_each_width_has_the_told_rests(self):
        dice = chance(50)
        for width in range(1, 9):
            for size in [1, 2, 3, 7, 8, 9, 16]:
                divisor = some_divisor(dice, size)
                told = table_of(divisor, width)
                self.assertIs(type(told), list)
                self.assertTrue(plain(told))
                self.assertEqual(len(told), 2 ** width)
                for number in range(2 ** width):
                    self.assertEqual(told[number], rest_of(row_of(width, number) + (0,) * size, divisor))
                    self.assertEqual(worth(told[number]), rest_number(number << size, worth(divisor)))
                    self.assertEqual(len(told[number]), size)

    def test_no_divisor(self):
        for thing in NO_DIVISORS:
            for width in [1, 8]:
                assert_refused(self, NoDivisor, table_of, thing, width)

    def test_a_told_table_is_the_askers_own(self):
        style = ((1, 0, 1, 1), (1, 0, 1), (0, 1, 0))
        row = (1, 0, 0, 1, 1, 1, 0)
        told = table_of(style[0], 2)
        right, check = list(told), check_by(style, 2, row)
        told.clear()
        told.append((1, 1, 1))
        self.assertEqual(table_of(style[0], 2), right)
        self.assertEqual(check_by(style, 2, row), check)


class CheckBy(unittest.TestCase):
    def test_small_rows_at_each_width(self):
        dice = chance(51)
        for width in range(1, 9):
            for size in [1, 2, 3, 8, 16]:
                style = some_style(dice, size)
                for long in range(2 * width + 2):
                    row = some_row(dice, long)
                    told = check_by(style, width, row)
                    self.assertTrue(plain_row(told))
                    self.assertEqual(told, check_of(style, row), (style, width, row))

    def test_each_size_and_width(self):
        dice = chance(52)
        for width in range(1, 9):
            for size in range(1, 17):
                style, row = some_style(dice, size), some_row(dice, dice.randrange(20, 60))
                self.assertEqual(check_by(style, width, row), check_of(style, row), (style, width, row))

    def test_long_rows(self):
        dice = chance(53)
        for width in range(1, 9):
            for size, long in [(1, 400), (5, 399), (8, 397), (16, 400), (16, 393)]:
                style, row = some_style(dice, size), some_row(dice, long)
                self.assertEqual(check_by(style, width, row), check_of(style, row))

    def test_widths_somewhat_beyond(self):
        dice = chance(54)
        style, row = some_style(dice, 5), some_row(dice, 31)
        for width in [0, 9, 10]:
            self.assertEqual(check_by(style, width, row), check_of(style, row))
