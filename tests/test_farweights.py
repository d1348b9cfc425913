import math
import unittest

from checkrows.divisors import divisors_of
from checkrows.errors import NoDivisor
from checkrows.farweights import far_weight
from checkrows.rounds import round_of
from checkrows.turned import turned_row
from checkrows.weights import weights_of
from tests.helper import asked, assert_refused, chance, some_divisor
from tests.test_choosings import walked_rests
from tests.test_divisors import NO_DIVISORS

FULL = (1, 0, 0, 0, 1, 1, 1, 0, 1)


def walked_weights(divisor, lengths, most):
    """By lengths, how many rows with 0 to most 1s have the rest 0: one place more each step, by all rests."""
    counts = [[0] * (most + 1) for rest in range(2 ** (len(divisor) - 1))]
    counts[0][0] = 1
    told = {}
    for length, rest in enumerate(walked_rests(divisor, max(lengths) + 1)):
        if length in lengths:
            told[length] = list(counts[0])
        counts = [[without + one for without, one in zip(known, [0] + counts[at ^ rest])]
                  for at, known in enumerate(counts)]
    return told


class FarWeight(unittest.TestCase):
    def check(self, divisor, length, w, right):
        told = asked(self, far_weight, divisor, length, w)
        self.assertEqual(repr(told), repr(right), (divisor, length, w))

    def each(self, divisor, lengths):
        told = walked_weights(divisor, lengths, 8)
        for length in lengths:
            for w in range(9):
                self.check(divisor, length, w, told[length][w])

    def test_by_hand(self):
        for w, right in enumerate([1, 0, 0, 7, 7, 0, 0, 1, 0]):
            self.check((1, 0, 1, 1), 7, w, right)
        for w in range(9):
            self.check((1, 1), 400, w, math.comb(400, w) if w % 2 == 0 else 0)
            self.check((1, 1), 0, w, 1 if w == 0 else 0)
            self.check(FULL, 8, w, 1 if w == 0 else 0)
        self.check(FULL, 255, 2, 0)
        self.check(FULL, 256, 2, 1)
        self.check(FULL, 400, 2, 145)

    def test_the_weights_to_twenty_four(self):
        dice = chance(250)
        for size in range(1, 9):
            for length in range(25):
                divisor = some_divisor(dice, size)
                weights = weights_of(divisor, length) + [0] * 9
                for w in range(9):
                    self.check(divisor, length, w, weights[w])

    def test_all_divisors_of_small_sizes(self):
        for size in range(1, 4):
            for divisor in divisors_of(size):
                self.each(divisor, [0, 1, 2, 7, 25, 60, 400])

    def test_far_lengths_against_the_rests(self):
        dice = chance(251)
        for size in range(4, 9):
            self.each(some_divisor(dice, size), [25, 100, 255, 256, 399, 400])
        self.each(FULL, [24, 25, 254, 255, 256, 257, 398, 399, 400])

    def test_pairs_by_the_round(self):
        for size in range(1, 7):
            for divisor in divisors_of(size)[::3]:
                n = round_of(divisor)
                for length in [0, n, n + 1, 2 * n, 400]:
                    self.check(divisor, length, 2, sum(length - apart for apart in range(n, length, n)))

    def test_noughts_ones_and_odd_ones(self):
        dice = chance(252)
        for size in range(1, 9):
            divisor = some_divisor(dice, size)
            for length in [0, 1, size, 200, 400]:
                self.check(divisor, length, 0, 1)
                self.check(divisor, length, 1, 0)
                if sum(divisor) % 2 == 0:
                    for w in [3, 5, 7]:
                        self.check(divisor, length, w, 0)

    def test_the_same_turned_about(self):
        dice = chance(253)
        for size in range(2, 9):
            divisor = some_divisor(dice, size)
            for length, w in [(30, 3), (100, 4), (400, 8)]:
                self.check(turned_row(divisor), length, w, far_weight(divisor, length, w))

    def test_somewhat_beyond(self):
        dice = chance(254)
        for size, length, w in [(9, 40, 9), (8, 410, 8), (10, 20, 3), (3, 400, 12)]:
            divisor = some_divisor(dice, size)
            self.check(divisor, length, w, walked_weights(divisor, [length], w)[length][w])

    def test_no_divisor(self):
        for thing in NO_DIVISORS:
            for length, w in [(0, 0), (24, 2), (400, 8)]:
                assert_refused(self, NoDivisor, far_weight, thing, length, w)
