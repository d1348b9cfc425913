import unittest

from checkrows.checks import check_of, checked_row, is_whole
from checkrows.division import rest_of
from checkrows.divisors import divisors_of
from checkrows.rows import row_of
from checkrows.sums import plus_rows
from tests.helper import chance, plain_row, some_divisor, some_row, some_style

LONGS = [0, 1, 2, 3, 7, 8, 15, 16, 17, 33, 64, 100, 255, 399, 400]


def walked_check(style, row):
    """The check as point 9 walks it, in numbers."""
    divisor, begin, end = ([int(bit) for bit in part] for part in style)
    held = begin
    for bit in row:
        lead = (bit + held[0]) % 2
        held = held[1:] + [0]
        if lead:
            held = [(one + other) % 2 for one, other in zip(held, divisor[1:])]
    return tuple((one + other) % 2 for one, other in zip(held, end))


def long_division_says_whole(style, row):
    """Whether the divisor divides the row, begin added to its first bits and end to its last ones."""
    divisor, begin, end = style
    if len(row) < len(begin):
        return False
    more = (0,) * (len(row) - len(begin))
    return not any(rest_of(plus_rows(plus_rows(row, begin + more), more + end), divisor))


def all_styles(size):
    rows = [row_of(size, number) for number in range(2 ** size)]
    return [(divisor, begin, end) for divisor in divisors_of(size) for begin in rows for end in rows]


class CheckOf(unittest.TestCase):
    def test_by_hand(self):
        style = ((1, 0, 1, 1), (0, 0, 0), (0, 0, 0))
        self.assertEqual(check_of(style, (1,)), (0, 1, 1))
        self.assertEqual(check_of(style, (1, 0, 0)), (1, 1, 1))
        self.assertEqual(check_of(((1, 0, 1, 1), (1, 0, 0), (0, 0, 1)), ()), (1, 0, 1))
        self.assertEqual(check_of(((1, 0, 1, 1), (1, 0, 0), (0, 0, 1)), (0,)), (0, 1, 0))
        self.assertEqual(check_of(((1, 1), (0,), (0,)), (1, 0, 1, 1)), (1,))

    def test_a_known_check(self):
        # "123456789" by CRC-16/IBM-3740: divisor 11021, begin FFFF, end 0000, check 29B1.
        style = (row_of(17, 0x11021), (1,) * 16, (0,) * 16)
        row = ()
        for sign in b"123456789":
            row += row_of(8, sign)
        self.assertEqual(check_of(style, row), row_of(16, 0x29B1))

    def test_a_row_without_bits(self):
        dice = chance(40)
        for size in range(1, 17):
            divisor, begin, end = some_style(dice, size)
            self.assertEqual(check_of((divisor, begin, end), ()), plus_rows(begin, end))

    def test_small_styles_against_the_walk(self):
        for size in [1, 2, 3]:
            for style in all_styles(size):
                for number in range(32):
                    row = row_of(5, number)
                    self.assertEqual(check_of(style, row), walked_check(style, row), (style, row))

    def test_each_size_against_the_walk(self):
        dice = chance(41)
        for size in range(1, 17):
            for long in LONGS:
                style, row = some_style(dice, size), some_row(dice, long)
                told = check_of(style, row)
                self.assertTrue(plain_row(told))
                self.assertEqual(len(told), size)
                self.assertEqual(told, walked_check(style, row), (style, row))

    def test_all_noughts_is_the_rest_with_noughts_behind(self):
        dice = chance(42)
        for size in range(1, 17):
            for long in LONGS:
                divisor, row = some_divisor(dice, size), some_row(dice, long)
                style = (divisor, (0,) * size, (0,) * size)
                self.assertEqual(check_of(style, row), rest_of(row + (0,) * size, divisor))


class CheckedRow(unittest.TestCase):
    def test_the_row_with_its_check_behind(self):
        dice = chance(43)
        for size in range(1, 17):
            for long in LONGS:
                style, row = some_style(dice, size), some_row(dice, long)
                told = checked_row(style, row)
                self.assertTrue(plain_row(told))
                self.assertEqual(told, row + walked_check(style, row))


class IsWhole(unittest.TestCase):
    def test_of_checked_rows(self):
        dice = chance(44)
        for size in range(1, 17):
            for long in LONGS:
                style = some_style(dice, size)
                self.assertIs(is_whole(style, checked_row(style, some_row(dice, long))), True)

    def test_of_one_changed_place(self):
        dice = chance(45)
        for size in [1, 4, 16]:
            style = some_style(dice, size)
            whole = checked_row(style, some_row(dice, 30))
            for at in range(len(whole)):
                changed = whole[:at] + (1 - whole[at],) + whole[at + 1:]
                self.assertIs(is_whole(style, changed), False)

    def test_of_fewer_bits_than_the_size(self):
        dice = chance(46)
        for size in range(1, 17):
            for long in range(size):
                for style in [some_style(dice, size), ((1,) * (size + 1), (0,) * size, (0,) * size)]:
                    self.assertIs(is_whole(style, (0,) * long), False)
                    self.assertIs(is_whole(style, some_row(dice, long)), False)

    def test_of_just_the_size(self):
        dice = chance(47)
        for size in range(1, 17):
            divisor, begin, end = style = some_style(dice, size)
            self.assertIs(is_whole(style, plus_rows(begin, end)), True)
            self.assertIs(is_whole(style, plus_rows((0,) * (size - 1) + (1,), plus_rows(begin, end))), False)

    def test_just_where_the_last_bits_are_the_check_and_long_division_says_so(self):
        for size in [1, 2, 3]:
            for style in all_styles(size):
                for long in range(6):
                    for number in range(2 ** long):
                        row = row_of(long, number)
                        told = is_whole(style, row)
                        by_check = long >= size and row[long - size:] == walked_check(style, row[:long - size])
                        self.assertIs(told, by_check, (style, row))
                        self.assertIs(told, long_division_says_whole(style, row), (style, row))

    def test_long_rows_against_long_division(self):
        dice = chance(48)
        for size in [1, 2, 8, 16]:
            for long in [size, 17, 100, 400, 416, 420]:
                style = some_style(dice, size)
                for row in [some_row(dice, long), checked_row(style, some_row(dice, long - size))]:
                    self.assertIs(is_whole(style, row), long_division_says_whole(style, row))
