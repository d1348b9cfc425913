import unittest

from checkrows.bursts import burst_length, many_bursts, slipping_bursts
from checkrows.changes import slips
from checkrows.divisors import divisors_of
from checkrows.errors import NoDivisor
from checkrows.rows import row_of
from tests.helper import asked, assert_refused, chance, some_divisor
from tests.test_divisors import NO_DIVISORS

GREAT = [10 ** 29, 10 ** 30 - 1, 2 ** 64]


class BurstLength(unittest.TestCase):
    def test_by_hand(self):
        told = [
            ((), 0), ((0,), 0), ((0, 0, 0), 0), ((0,) * 420, 0), ((1,), 1), ((0, 1, 0), 1), ((1, 1), 2), ((1, 0, 1), 3),
            ((0, 1, 0, 0, 1, 0), 4), ((1, 1, 1, 1), 4), ((1,) * 420, 420), ((1,) + (0,) * 418 + (1,), 420),
            ((0,) * 419 + (1,), 1),
        ]
        for row, long in told:
            self.assertEqual(repr(asked(self, burst_length, row)), repr(long))


class ManyBursts(unittest.TestCase):
    def test_by_hand(self):
        told = [
            (0, 1, 0), (1, 1, 1), (1, 2, 0), (5, 1, 5), (5, 2, 4), (5, 3, 6), (5, 4, 8), (5, 5, 8), (5, 6, 0),
            (400, 1, 400), (400, 400, 2 ** 398), (400, 399, 2 ** 398), (400, 401, 0), (400, 2, 399),
        ]
        for many, long, right in told:
            self.assertEqual(repr(asked(self, many_bursts, many, long)), repr(right), (many, long))

    def test_against_all_rows(self):
        for many in range(11):
            longs = [burst_length(row_of(many, number)) for number in range(1, 2 ** many)]
            for long in range(1, many + 4):
                self.assertEqual(many_bursts(many, long), longs.count(long), (many, long))

    def test_all_lengths_come_to_all_changes(self):
        for many in [1, 17, 60, 400]:
            self.assertEqual(sum(many_bursts(many, long) for long in range(1, many + 1)), 2 ** many - 1)

    def test_longer_than_there_are_bits(self):
        for many in [0, 1, 2, 17, 400]:
            for long in [many + 1, many + 2, 1000] + GREAT:
                self.assertEqual(repr(asked(self, many_bursts, many, long)), "0")


class SlippingBursts(unittest.TestCase):
    def test_by_hand(self):
        told = [
            ((1, 0, 1, 1), 10, 1, 0), ((1, 0, 1, 1), 10, 3, 0), ((1, 0, 1, 1), 10, 4, 7), ((1, 0, 1, 1), 10, 5, 6),
            ((1, 0, 1, 1), 10, 6, 10), ((1, 0, 1, 1), 10, 10, 32), ((1, 0, 1, 1), 10, 11, 0), ((1, 1), 1, 1, 0),
            ((1, 1), 2, 2, 1), ((1, 1), 0, 1, 0), ((1, 1), 400, 400, 2 ** 397), ((1,) * 17, 400, 400, 2 ** 382),
            ((1,) * 17, 400, 17, 384), ((1,) * 17, 400, 16, 0), ((1,) * 17, 17, 17, 1), ((1,) * 17, 16, 17, 0),
        ]
        for divisor, many, long, right in told:
            told_now = asked(self, slipping_bursts, divisor, many, long)
            self.assertEqual(repr(told_now), repr(right), (divisor, many, long))

    def test_against_all_rows(self):
        for size in range(1, 6):
            for divisor in divisors_of(size):
                for many in range(9):
                    rows = [row_of(many, number) for number in range(2 ** many)]
                    longs = [burst_length(row) for row in rows if slips(divisor, row)]
                    for long in range(1, many + 4):
                        self.assertEqual(slipping_bursts(divisor, many, long), longs.count(long))

    def test_as_long_as_the_size_and_longer(self):
        dice = chance(110)
        for size in range(1, 17):
            divisor = some_divisor(dice, size)
            for many in [size, size + 1, size + 2, size + 3, 100, 400]:
                for long in range(1, size + 1):
                    self.assertEqual(slipping_bursts(divisor, many, long), 0)
                self.assertEqual(slipping_bursts(divisor, many, size + 1), max(0, many - size))
                self.assertEqual(slipping_bursts(divisor, many, size + 2), max(0, many - size - 1))
                self.assertEqual(slipping_bursts(divisor, many, size + 3), 2 * max(0, many - size - 2))

    def test_longer_than_there_are_bits(self):
        for divisor in [(1, 1), (1, 0, 1, 1), (1,) * 17]:
            for many in [0, 1, 2, 17, 400]:
                for long in [many + 1, many + 2, 1000] + GREAT:
                    self.assertEqual(repr(asked(self, slipping_bursts, divisor, many, long)), "0")

    def test_no_divisor(self):
        for thing in NO_DIVISORS:
            for many, long in [(0, 1), (10, 1), (10, 4), (10, 20), (400, 10 ** 29)]:
                assert_refused(self, NoDivisor, slipping_bursts, thing, many, long)
