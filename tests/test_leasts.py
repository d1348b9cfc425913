import unittest

from checkrows.changes import slips
from checkrows.divisors import divisors_of
from checkrows.errors import NoDivisor
from checkrows.leasts import least_of
from checkrows.rounds import round_of
from tests.helper import asked, assert_refused, chance, plain_row, rest_number, some_divisor, worth
from tests.test_divisors import NO_DIVISORS
from tests.test_weights import weights_by_all_rows, weights_by_choosings


class LeastOf(unittest.TestCase):
    def check(self, divisor, length, weights):
        """By the weights, reckoned otherwise, of the divisor for the length."""
        told = asked(self, least_of, divisor, length)
        fewest = [w for w in range(1, length + 1) if weights[w] > 0]
        if not fewest:
            self.assertIsNone(told)
            self.assertLessEqual(length, len(divisor) - 1)
            return
        self.assertIs(type(told), tuple)
        number, change = told
        self.assertEqual(repr(number), repr(fewest[0]), (divisor, length))
        self.assertTrue(plain_row(change))
        self.assertEqual(len(change), length)
        self.assertEqual(sum(change), number)
        self.assertEqual(rest_number(worth(change), worth(divisor)), 0)
        self.assertIs(slips(divisor, change), True)
        self.assertGreater(length, len(divisor) - 1)

    def test_by_hand(self):
        self.assertEqual(least_of((1, 1), 2), (2, (1, 1)))
        self.assertEqual(least_of((1, 0, 1, 1), 4), (3, (1, 0, 1, 1)))
        self.assertEqual(least_of((1, 1, 1, 1), 4), (4, (1, 1, 1, 1)))
        self.assertEqual(least_of((1, 1, 1, 1), 5), (2, (1, 0, 0, 0, 1)))
        self.assertEqual(least_of((1, 0, 1, 1), 8)[0], 2)
        self.assertEqual(least_of((1, 0, 1, 1), 7)[0], 3)

    def test_lengths_no_more_than_the_size(self):
        for size in range(1, 9):
            for divisor in divisors_of(size)[::3]:
                for length in range(size + 1):
                    self.assertIsNone(asked(self, least_of, divisor, length))
                self.assertEqual(least_of(divisor, size + 1), (sum(divisor), divisor))

    def test_small_lengths_against_all_rows(self):
        for size in range(1, 5):
            for divisor in divisors_of(size):
                for length in range(9):
                    self.check(divisor, length, weights_by_all_rows(divisor, length))

    def test_each_length_and_size_against_the_choosings(self):
        dice = chance(140)
        for size in range(1, 9):
            for length in range(25):
                divisor = some_divisor(dice, size)
                self.check(divisor, length, weights_by_choosings(divisor, length))

    def test_two_just_beyond_the_round(self):
        for size in range(1, 7):
            for divisor in divisors_of(size):
                n = round_of(divisor)
                for length in range(size + 1, 25):
                    self.assertEqual(least_of(divisor, length)[0] == 2, length > n, (divisor, length))

    def test_somewhat_beyond(self):
        self.assertEqual(least_of((1, 0, 1, 0, 1, 1, 1, 0, 0, 0, 1, 1), 23)[0], 7)
        self.assertEqual(least_of((1, 0, 0, 1, 0, 1), 31)[0], 3)
        self.assertEqual(least_of((1, 0, 0, 1, 0, 1), 32)[0], 2)

    def test_no_divisor(self):
        for thing in NO_DIVISORS:
            for length in [0, 1, 24]:
                assert_refused(self, NoDivisor, least_of, thing, length)
