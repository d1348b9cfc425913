import unittest

from checkrows.division import divided, rest_of
from checkrows.errors import NoDivisor
from checkrows.rows import number_of, row_of
from checkrows.sums import plus_rows, times_rows
from tests.helper import NO_ROWS, assert_refused, chance, plain_row, rest_number, some_row, worth


class Divided(unittest.TestCase):
    def check(self, row, by):
        told = divided(row, by)
        self.assertIs(type(told), tuple)
        self.assertEqual(len(told), 2)
        quotient, rest = told
        self.assertTrue(plain_row(quotient) and plain_row(rest))
        self.assertEqual(len(quotient), max(0, len(row) - len(by) + 1))
        self.assertEqual(len(rest), len(by) - 1)
        product = times_rows(quotient, by)
        long = max(len(row), len(rest))
        product = (0,) * (long - len(product)) + product
        rest_long = (0,) * (long - len(rest)) + rest
        self.assertEqual(plus_rows(product, rest_long), (0,) * (long - len(row)) + row)
        self.assertEqual(worth(rest), rest_number(worth(row), worth(by)))
        self.assertEqual(rest_of(row, by), rest)

    def test_by_hand(self):
        self.assertEqual(divided((1, 0, 1, 1), (1, 1)), ((1, 1, 0), (1,)))
        self.assertEqual(divided((1, 0, 1), (1, 0, 1)), ((1,), (0, 0)))
        self.assertEqual(divided((1, 0, 0), (1, 0, 1)), ((1,), (0, 1)))
        self.assertEqual(divided((0, 1, 1), (1, 0, 1)), ((0,), (1, 1)))
        self.assertEqual(divided((1,), (1, 0, 1, 1)), ((), (0, 0, 1)))
        self.assertEqual(divided((1, 1, 0), (1, 0, 1, 1)), ((), (1, 1, 0)))
        self.assertEqual(divided((), (1, 0, 1)), ((), (0, 0)))
        self.assertEqual(divided((0, 1, 1, 0), (1, 0)), ((0, 1, 1), (0,)))

    def test_by_one_bit(self):
        for row in [(), (0,), (1,), (0, 1, 0), (1,) * 420]:
            self.assertEqual(divided(row, (1,)), (row, ()))
            self.assertEqual(rest_of(row, (1,)), ())

    def test_all_short_rows(self):
        for many in range(6):
            for number in range(2 ** many):
                for by in range(1, 32):
                    self.check(row_of(many, number), row_of(by.bit_length(), by))

    def test_long_rows(self):
        dice = chance(8)
        for many, more in [(420, 1), (420, 2), (420, 17), (400, 200), (420, 419), (420, 420), (17, 420), (0, 420)]:
            self.check(some_row(dice, many), (1,) + some_row(dice, more - 1))

    def test_no_row_that_begins_with_one(self):
        for by in NO_ROWS + [(), (0,), (0, 1), (0, 1, 1), (0,) * 420, (0,) + (1,) * 419]:
            for row in [(), (1, 0, 1), (0,) * 420]:
                assert_refused(self, NoDivisor, divided, row, by)
                assert_refused(self, NoDivisor, rest_of, row, by)

    def test_what_cannot_divide_is_as_it_was(self):
        by = [1, [0], {"a": [1]}]
        assert_refused(self, NoDivisor, divided, (1, 0), by)
        self.assertEqual(by, [1, [0], {"a": [1]}])

    def test_divides_just_the_multiples(self):
        by = (1, 0, 1, 1)
        multiples = {number_of(times_rows(row_of(4, number), by)) for number in range(16)}
        for number in range(128):
            self.assertEqual(rest_of(row_of(7, number), by) == (0, 0, 0), number in multiples)
