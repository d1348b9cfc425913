import unittest

from checkrows.checks import check_of
from checkrows.divisors import power_rest
from checkrows.errors import NoStyle
from checkrows.pieces import joined_check, parted_check
from checkrows.rows import row_of
from checkrows.sums import plus_rows
from tests.helper import asked, assert_refused, chance, plain_row, some_row, some_style
from tests.test_checks import all_styles, walked_check
from tests.test_styles import NO_STYLES

GREAT = [10 ** 29, 10 ** 30 - 1, 123456789012345678901234567890]


class Pieces(unittest.TestCase):
    def check(self, style, first, second):
        both = check_of(style, first + second)
        one, other = check_of(style, first), check_of(style, second)
        joined = asked(self, joined_check, style, one, other, len(second))
        self.assertTrue(plain_row(joined))
        self.assertEqual(joined, both, (style, first, second))
        parted = asked(self, parted_check, style, both, other, len(second))
        self.assertTrue(plain_row(parted))
        self.assertEqual(parted, one, (style, first, second))

    def test_by_hand(self):
        style = ((1, 0, 1, 1), (1, 1, 1), (0, 1, 0))
        # Of (1,) it is (1, 0, 0), of (0, 1) it is (0, 0, 0) and of (1, 0, 1) it is (1, 0, 0) again.
        self.assertEqual(walked_check(style, (1,)), (1, 0, 0))
        self.assertEqual(walked_check(style, (0, 1)), (0, 0, 0))
        self.assertEqual(walked_check(style, (1, 0, 1)), (1, 0, 0))
        self.assertEqual(joined_check(style, (1, 0, 0), (0, 0, 0), 2), (1, 0, 0))
        self.assertEqual(parted_check(style, (1, 0, 0), (0, 0, 0), 2), (1, 0, 0))

    def test_all_small_styles_and_pieces(self):
        for size in [1, 2]:
            for style in all_styles(size):
                for many in range(4):
                    for more in range(4):
                        for number in range(2 ** (many + more)):
                            row = row_of(many + more, number)
                            self.check(style, row[:many], row[many:])

    def test_each_size(self):
        dice = chance(70)
        for size in range(1, 17):
            for many, more in [(0, 0), (0, 9), (9, 0), (1, 1), (size, size), (30, 50), (200, 200), (1, 399), (399, 1)]:
                self.check(some_style(dice, size), some_row(dice, many), some_row(dice, more))

    def test_a_piece_without_bits(self):
        dice = chance(71)
        for size in range(1, 17):
            style, check = some_style(dice, size), some_row(dice, size)
            none = check_of(style, ())
            self.assertEqual(joined_check(style, check, none, 0), check)
            self.assertEqual(parted_check(style, check, none, 0), check)
            for many in [0, 1, 7, 300] + GREAT:
                self.assertEqual(joined_check(style, none, check, many), check)
                self.assertEqual(parted_check(style, check, check, many), none)

    def test_a_second_piece_of_thirty_figures(self):
        dice = chance(72)
        for size in range(1, 17):
            style, first, second = some_style(dice, size), some_row(dice, size), some_row(dice, size)
            for many in GREAT:
                both = asked(self, joined_check, style, first, second, many)
                self.assertTrue(plain_row(both))
                self.assertEqual(asked(self, parted_check, style, both, second, many), first)
                # Forty bits more behind the far second piece are walked one by one.
                more = some_row(dice, 40)
                far = joined_check(style, second, check_of(style, more), 40)
                walked = check_of((style[0], plus_rows(both, style[2]), style[2]), more)
                self.assertEqual(joined_check(style, first, far, many + 40), walked)

    def test_a_far_second_piece_of_noughts(self):
        # Behind begin of noughts a piece of noughts leaves noughts, so the first is moved alone.
        divisor = (1, 0, 0, 1, 0, 1)
        style = (divisor, (0,) * 5, (0,) * 5)
        for many in GREAT:
            self.assertEqual(joined_check(style, (0, 0, 0, 0, 1), (0,) * 5, many), power_rest(divisor, many % 31))

    def test_pieces_of_pieces(self):
        dice = chance(73)
        for size in [1, 5, 16]:
            style = some_style(dice, size)
            rows = [some_row(dice, many) for many in [3, 0, 11, 40, 1]]
            check = check_of(style, ())
            for row in rows:
                check = joined_check(style, check, check_of(style, row), len(row))
            self.assertEqual(check, check_of(style, sum(rows, ())))

    def test_no_style(self):
        for thing in NO_STYLES:
            for many in [0, 3, 10 ** 29]:
                assert_refused(self, NoStyle, joined_check, thing, (0, 1, 0), (1, 1, 0), many)
                assert_refused(self, NoStyle, parted_check, thing, (0, 1, 0), (1, 1, 0), many)
