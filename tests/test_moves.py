import unittest

from checkrows.division import rest_of
from checkrows.divisors import divisors_of, power_rest
from checkrows.errors import NoDivisor
from checkrows.moves import moved_rest
from checkrows.rows import row_of
from tests.helper import assert_refused, chance, plain_row, some_divisor, some_row
from tests.test_divisors import NO_DIVISORS


class MovedRest(unittest.TestCase):
    def test_by_hand(self):
        self.assertEqual(moved_rest((1, 0, 1, 1), (0, 0, 1), 3), (0, 1, 1))
        self.assertEqual(moved_rest((1, 0, 1, 1), (0, 1, 1), -3), (0, 0, 1))
        self.assertEqual(moved_rest((1, 0, 1, 1), (0, 0, 1), -1), (1, 0, 1))
        self.assertEqual(moved_rest((1, 1), (1,), -5), (1,))
        self.assertEqual(moved_rest((1, 1), (0,), 5), (0,))

    def test_by_nought(self):
        dice = chance(60)
        for size in range(1, 17):
            divisor, rest = some_divisor(dice, size), some_row(dice, size)
            self.assertEqual(moved_rest(divisor, rest, 0), rest)

    def test_small_numbers_against_long_division(self):
        for size in range(1, 5):
            for divisor in divisors_of(size):
                for number in range(2 ** size):
                    rest = row_of(size, number)
                    for n in range(20):
                        told = moved_rest(divisor, rest, n)
                        self.assertTrue(plain_row(told))
                        self.assertEqual(told, rest_of(rest + (0,) * n, divisor))

    def test_below_nought_is_the_one_rest_that_moved_is_it(self):
        for size in range(1, 5):
            for divisor in divisors_of(size):
                rests = [row_of(size, number) for number in range(2 ** size)]
                for rest in rests:
                    for n in range(1, 12):
                        right = [other for other in rests if rest_of(other + (0,) * n, divisor) == rest]
                        told = moved_rest(divisor, rest, -n)
                        self.assertTrue(plain_row(told))
                        self.assertEqual([told], right)

    def test_each_size_against_long_division(self):
        dice = chance(61)
        for size in range(1, 17):
            divisor, rest = some_divisor(dice, size), some_row(dice, size)
            for n in [1, 2, size, 100, 255, 400]:
                moved = rest_of(rest + (0,) * n, divisor)
                self.assertEqual(moved_rest(divisor, rest, n), moved)
                self.assertEqual(moved_rest(divisor, moved, -n), rest)

    def test_numbers_of_thirty_figures(self):
        dice = chance(62)
        for size in range(1, 17):
            divisor, rest = some_divisor(dice, size), some_row(dice, size)
            for n in [10 ** 29, 10 ** 30 - 1, dice.randrange(10 ** 29, 10 ** 30)]:
                forth, back = moved_rest(divisor, rest, n), moved_rest(divisor, rest, -n)
                self.assertEqual(moved_rest(divisor, forth, -n), rest)
                self.assertEqual(moved_rest(divisor, back, n), rest)
                # Moved on from far away it is as long division says, so it is far away as well.
                self.assertEqual(moved_rest(divisor, rest, n + 50), rest_of(forth + (0,) * 50, divisor))
                self.assertEqual(moved_rest(divisor, rest, 50 - n), rest_of(back + (0,) * 50, divisor))

    def test_great_numbers_come_round(self):
        divisor, rest = (1, 0, 0, 1, 0, 1), (1, 0, 1, 1, 0)
        for n in [10 ** 29, 10 ** 30 - 1, 31 * 10 ** 28]:
            self.assertEqual(moved_rest(divisor, rest, n), rest_of(rest + (0,) * (n % 31), divisor))
            self.assertEqual(moved_rest(divisor, rest, -n), rest_of(rest + (0,) * (-n % 31), divisor))

    def test_of_one_it_is_the_power(self):
        dice = chance(63)
        for size in range(1, 17):
            divisor = some_divisor(dice, size)
            one = (0,) * (size - 1) + (1,)
            for n in [0, 1, 17, 10 ** 29]:
                self.assertEqual(moved_rest(divisor, one, n), power_rest(divisor, n))

    def test_no_divisor(self):
        for thing in NO_DIVISORS:
            for n in [0, 3, -3, 10 ** 29, -(10 ** 29)]:
                assert_refused(self, NoDivisor, moved_rest, thing, (0, 1, 1), n)
