import math
import unittest

from checkrows.divisors import divisors_of
from checkrows.errors import NoDivisor
from checkrows.weights import weights_of
from tests.helper import asked, assert_refused, chance, rest_number, some_divisor, times_numbers, worth
from tests.test_divisors import NO_DIVISORS


def weights_by_all_rows(divisor, length):
    weights = [0] * (length + 1)
    for number in range(2 ** length):
        if rest_number(number, worth(divisor)) == 0:
            weights[bin(number).count("1")] += 1
    return weights


def weights_by_multiples(divisor, length):
    """The same by all multiples: for lengths far beyond the size."""
    weights = [0] * (length + 1)
    for number in range(2 ** max(0, length - len(divisor) + 1)):
        weights[bin(times_numbers(worth(divisor), number)).count("1")] += 1
    return weights


def weights_by_choosings(divisor, length):
    """The same by the sum of point 30, without any row."""
    size = len(divisor) - 1
    rests = [rest_number(1 << place, worth(divisor)) for place in range(length)]
    weights = [0] * (length + 1)
    for choosing in range(2 ** size):
        met = sum(bin(choosing & rest).count("1") % 2 for rest in rests)
        for w in range(length + 1):
            for i in range(w + 1):
                weights[w] += (-1) ** i * math.comb(met, i) * math.comb(length - met, w - i)
    return [weight // 2 ** size for weight in weights]


class WeightsOf(unittest.TestCase):
    def check(self, divisor, length, right):
        told = asked(self, weights_of, divisor, length)
        self.assertIs(type(told), list)
        self.assertEqual(repr(told), repr(right), (divisor, length))

    def test_by_hand(self):
        self.check((1, 1), 0, [1])
        self.check((1, 1), 1, [1, 0])
        self.check((1, 1), 2, [1, 0, 1])
        self.check((1, 1), 4, [1, 0, 6, 0, 1])
        self.check((1, 0, 1, 1), 3, [1, 0, 0, 0])
        self.check((1, 0, 1, 1), 4, [1, 0, 0, 1, 0])
        self.check((1, 0, 1, 1), 7, [1, 0, 0, 7, 7, 0, 0, 1])

    def test_of_size_one(self):
        for length in range(25):
            self.check((1, 1), length, [math.comb(length, w) if w % 2 == 0 else 0 for w in range(length + 1)])

    def test_lengths_no_more_than_the_size(self):
        for size in range(1, 9):
            for divisor in divisors_of(size)[::5]:
                for length in range(size + 1):
                    self.check(divisor, length, [1] + [0] * length)

    def test_small_lengths_against_all_rows(self):
        for size in range(1, 5):
            for divisor in divisors_of(size):
                for length in range(9):
                    self.check(divisor, length, weights_by_all_rows(divisor, length))

    def test_great_sizes_against_all_multiples(self):
        dice = chance(130)
        for size in range(5, 9):
            for divisor in [some_divisor(dice, size), (1,) + (0,) * (size - 1) + (1,), (1,) * (size + 1)]:
                for length in [size + 1, size + 2, size + 7, size + 10]:
                    self.check(divisor, length, weights_by_multiples(divisor, length))

    def test_each_length_and_size_against_the_choosings(self):
        dice = chance(131)
        for size in range(1, 9):
            for length in range(25):
                divisor = some_divisor(dice, size)
                self.check(divisor, length, weights_by_choosings(divisor, length))

    def test_all_together_are_all_multiples(self):
        dice = chance(132)
        for size in range(1, 9):
            for length in range(size, 25):
                self.assertEqual(sum(weights_of(some_divisor(dice, size), length)), 2 ** (length - size))

    def test_somewhat_beyond(self):
        # The Golay divisor, of size 11: its weights for 23 are well known.
        told = weights_of((1, 0, 1, 0, 1, 1, 1, 0, 0, 0, 1, 1), 23)
        known = {0: 1, 7: 253, 8: 506, 11: 1288, 12: 1288, 15: 506, 16: 253, 23: 1}
        self.assertEqual(told, [known.get(w, 0) for w in range(24)])
        self.check((1, 0, 1, 1), 26, weights_by_choosings((1, 0, 1, 1), 26))

    def test_a_told_list_is_the_askers_own(self):
        for length in [0, 2, 7]:
            told = weights_of((1, 0, 1, 1), length)
            right = list(told)
            told[0] = 5
            told.append(7)
            self.assertEqual(weights_of((1, 0, 1, 1), length), right)

    def test_no_divisor(self):
        for thing in NO_DIVISORS:
            for length in [0, 1, 24]:
                assert_refused(self, NoDivisor, weights_of, thing, length)
