import math
import unittest

from checkrows.common import common_of, product_of
from checkrows.division import rest_of
from checkrows.divisors import divisors_of, power_rest
from checkrows.errors import NoDivisor
from checkrows.rounds import round_of
from tests.helper import asked, assert_refused, chance, rest_number, some_divisor, worth
from tests.test_divisors import NO_DIVISORS


def walked_round(divisor):
    """The round by noughts put behind one by one, in numbers."""
    by = worth(divisor)
    start = rest_number(1, by)
    held, n = rest_number(start << 1, by), 1
    while held != start:
        held, n = rest_number(held << 1, by), n + 1
    return n


class RoundOf(unittest.TestCase):
    def test_by_hand(self):
        told = [
            ((1, 1), 1), ((1, 0, 1), 2), ((1, 1, 1), 3), ((1, 0, 1, 1), 7), ((1, 1, 1, 1), 4), ((1, 0, 0, 1), 3),
            ((1, 0, 0, 1, 1), 15), ((1, 1, 1, 1, 1), 5), ((1, 0, 0, 0, 1), 4), ((1, 0, 0, 1, 0, 1), 31),
        ]
        for divisor, n in told:
            self.assertEqual(round_of(divisor), n)

    def test_small_sizes_against_long_division(self):
        for size in range(1, 7):
            for divisor in divisors_of(size):
                n = 1
                while rest_of((1,) + (0,) * n, divisor) != rest_of((1,), divisor):
                    n += 1
                told = asked(self, round_of, divisor)
                self.assertIs(type(told), int)
                self.assertEqual(told, n, divisor)

    def test_all_divisors_to_size_nine_against_the_walk(self):
        for size in range(1, 10):
            for divisor in divisors_of(size):
                told = round_of(divisor)
                self.assertEqual(told, walked_round(divisor), divisor)
                self.assertLessEqual(told, 2 ** size - 1)

    def test_greater_sizes_against_the_walk(self):
        dice = chance(90)
        for size in range(10, 17):
            for divisor in [some_divisor(dice, size), (1,) + (0,) * (size - 1) + (1,), (1,) * (size + 1)]:
                told = round_of(divisor)
                self.assertEqual(told, walked_round(divisor), divisor)
                self.assertEqual(power_rest(divisor, told), power_rest(divisor, 0))

    def test_the_greatest_round(self):
        # x^16 + x^5 + x^3 + x^2 + 1 goes through all rests but that of noughts.
        self.assertEqual(round_of((1,) + (0,) * 10 + (1, 0, 1, 1, 0, 1)), 65535)

    def test_noughts_alone_between(self):
        for size in range(1, 17):
            self.assertEqual(round_of((1,) + (0,) * (size - 1) + (1,)), size)
            self.assertEqual(round_of((1,) * (size + 1)), size + 1 if size > 1 else 1)

    def test_products_without_a_common_part(self):
        for one in divisors_of(2) + divisors_of(3) + divisors_of(5)[:6]:
            for other in divisors_of(1) + divisors_of(4):
                if common_of(one, other)[0] == (1,):
                    product = product_of(one, other)
                    self.assertEqual(round_of(product), math.lcm(round_of(one), round_of(other)))

    def test_no_divisor(self):
        for thing in NO_DIVISORS:
            assert_refused(self, NoDivisor, round_of, thing)
