import unittest

from checkrows.common import common_of, product_of
from checkrows.division import rest_of
from checkrows.divisors import divisors_of, is_divisor
from checkrows.errors import NoDivisor, NoFit
from checkrows.rows import row_of, short_row
from checkrows.sums import plus_rows, times_rows
from tests.helper import assert_refused, chance, plain_row, rest_number, some_divisor, some_row, times_numbers, worth
from tests.test_divisors import NO_DIVISORS


def common_number(one, other):
    while other:
        one, other = other, rest_number(one, other)
    return one


class CommonOf(unittest.TestCase):
    def check(self, one, other):
        told = common_of(one, other)
        self.assertIs(type(told), tuple)
        self.assertEqual(len(told), 3)
        part, a, b = told
        self.assertTrue(plain_row(part) and plain_row(a) and plain_row(b))
        self.assertEqual(part, short_row(part))
        self.assertEqual(worth(part), common_number(worth(one), worth(other)))
        if part:
            for row in (one, other):
                self.assertEqual(rest_of(row, part), (0,) * (len(part) - 1))
        first, second = times_rows(a, one), times_rows(b, other)
        long = max(len(first), len(second))
        both = plus_rows((0,) * (long - len(first)) + first, (0,) * (long - len(second)) + second)
        self.assertEqual(short_row(both), part)

    def test_by_hand(self):
        told = [
            ((1, 0, 1), (1, 1), (1, 1)),
            ((1, 0, 1, 1), (1, 1), (1,)),
            ((1, 1, 0), (1, 0, 0), (1, 0)),
            ((1, 1, 0), (1, 1, 0), (1, 1, 0)),
            ((1,), (1, 1, 1), (1,)),
        ]
        for one, other, part in told:
            self.assertEqual(common_of(one, other)[0], part)
            self.assertEqual(common_of(other, one)[0], part)

    def test_noughts_alone(self):
        for row in [(1,), (1, 1, 0), (0, 0, 1, 0, 1), (0, 1)]:
            for none in [(), (0,), (0, 0, 0), (0,) * 40]:
                self.assertEqual(common_of(row, none)[0], short_row(row))
                self.assertEqual(common_of(none, row)[0], short_row(row))
                self.check(row, none)
                self.check(none, row)

    def test_both_noughts_alone(self):
        for one in [(), (0,), (0, 0, 0), (0,) * 40]:
            for other in [(), (0,), (0, 0), (0,) * 40]:
                self.assertEqual(common_of(one, other)[0], ())
                self.check(one, other)

    def test_all_short_rows(self):
        rows = [row_of(many, number) for many in range(5) for number in range(2 ** many)]
        for one in rows:
            for other in rows:
                self.check(one, other)

    def test_rows_of_forty_bits(self):
        dice = chance(20)
        for step in range(60):
            self.check(some_row(dice, 40), some_row(dice, dice.randrange(41)))

    def test_rows_with_a_part_in_common(self):
        dice = chance(21)
        for step in range(60):
            part = (1,) + some_row(dice, dice.randrange(15))
            one = (0,) * dice.randrange(4) + times_rows(part, some_row(dice, 20))
            other = (0,) * dice.randrange(4) + times_rows(part, some_row(dice, 13))
            self.check(one, other)
            self.check(other, one)


class ProductOf(unittest.TestCase):
    def test_by_hand(self):
        self.assertEqual(product_of((1, 1), (1, 1)), (1, 0, 1))
        self.assertEqual(product_of((1, 1), (1, 0, 1, 1)), (1, 1, 1, 0, 1))

    def test_small_ones_are_divisors(self):
        for one in divisors_of(3) + divisors_of(1):
            for other in divisors_of(4):
                told = product_of(one, other)
                self.assertTrue(plain_row(told) and is_divisor(told))
                self.assertEqual(len(told), len(one) + len(other) - 1)
                self.assertEqual(worth(told), times_numbers(worth(one), worth(other)))

    def test_sizes_that_come_to_sixteen_and_beyond(self):
        dice = chance(22)
        for size in range(1, 16):
            one = some_divisor(dice, size)
            told = product_of(one, some_divisor(dice, 16 - size))
            self.assertTrue(is_divisor(told))
            self.assertEqual(len(told), 17)
            assert_refused(self, NoFit, product_of, one, some_divisor(dice, 17 - size))
        assert_refused(self, NoFit, product_of, (1,) * 17, (1, 1))
        assert_refused(self, NoFit, product_of, (1, 1), (1,) * 17)
        assert_refused(self, NoFit, product_of, (1,) * 17, (1,) * 17)

    def test_no_divisor_goes_ahead_of_no_fit(self):
        for thing in NO_DIVISORS:
            for divisor in [(1, 1), (1,) * 17]:
                assert_refused(self, NoDivisor, product_of, thing, divisor)
                assert_refused(self, NoDivisor, product_of, divisor, thing)
            assert_refused(self, NoDivisor, product_of, thing, thing)
