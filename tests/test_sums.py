import unittest

from checkrows.errors import NoFit
from checkrows.sums import plus_rows, times_rows
from tests.helper import assert_refused, chance, plain_row, some_row, times_numbers, worth


def written_product(one, other):
    """The sum of point 5, place by place."""
    bits = []
    for k in range(len(one) + len(other) - 1):
        many = sum(one[i] * other[k - i] for i in range(len(one)) if 0 <= k - i < len(other))
        bits.append(many % 2)
    return tuple(bits)


class PlusRows(unittest.TestCase):
    def test_by_hand(self):
        self.assertEqual(plus_rows((), ()), ())
        self.assertEqual(plus_rows((0, 0, 1, 1), (0, 1, 0, 1)), (0, 1, 1, 0))

    def test_at_each_place(self):
        dice = chance(6)
        for many in [1, 2, 3, 17, 64, 400, 420]:
            one, other = some_row(dice, many), some_row(dice, many)
            told = plus_rows(one, other)
            self.assertTrue(plain_row(told))
            self.assertEqual(len(told), many)
            for at in range(many):
                self.assertEqual(told[at], 1 if one[at] != other[at] else 0)

    def test_one_place_alone(self):
        for at in range(6):
            row = (1, 0, 0, 1, 1, 0)
            lone = tuple(1 if k == at else 0 for k in range(6))
            changed = row[:at] + (1 - row[at],) + row[at + 1:]
            self.assertEqual(plus_rows(row, lone), changed)
            self.assertEqual(plus_rows(lone, row), changed)

    def test_unlike_lengths(self):
        for one, other in [((), (0,)), ((0,), ()), ((1, 0), (1,)), ((1,), (0, 1)), ((0,) * 420, (0,) * 419)]:
            assert_refused(self, NoFit, plus_rows, one, other)


class TimesRows(unittest.TestCase):
    def test_by_hand(self):
        self.assertEqual(times_rows((1, 1), (1, 1)), (1, 0, 1))
        self.assertEqual(times_rows((1, 0, 1, 1), (1, 1)), (1, 1, 1, 0, 1))
        self.assertEqual(times_rows((0,), (1, 1)), (0, 0))
        self.assertEqual(times_rows((0, 1), (0, 0, 1)), (0, 0, 0, 1))
        self.assertEqual(times_rows((1,), (1, 0, 0)), (1, 0, 0))

    def test_one_of_both_has_no_bits(self):
        for row in [(), (0,), (1,), (1, 0, 1), (0,) * 420]:
            self.assertEqual(times_rows((), row), ())
            self.assertEqual(times_rows(row, ()), ())

    def test_all_short_rows_against_the_written_sum(self):
        rows = [tuple(map(int, bin(number)[3:])) for number in range(2, 32)]
        for one in rows:
            for other in rows:
                told = times_rows(one, other)
                self.assertTrue(plain_row(told))
                self.assertEqual(told, written_product(one, other))

    def test_long_rows(self):
        dice = chance(7)
        for many, more in [(1, 420), (420, 1), (17, 404), (210, 211), (400, 16)]:
            one, other = some_row(dice, many), some_row(dice, more)
            told = times_rows(one, other)
            self.assertEqual(told, written_product(one, other))
            self.assertEqual(worth(told), times_numbers(worth(one), worth(other)))
