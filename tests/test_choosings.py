import unittest

from checkrows.choosings import places_met
from checkrows.divisors import divisors_of
from checkrows.errors import NoDivisor
from tests.helper import asked, assert_refused, chance, rest_number, some_divisor, worth
from tests.test_divisors import NO_DIVISORS


def walked_rests(divisor, length):
    """The rests of 1 with 0, 1, 2 and so on noughts behind, as numbers, one step each."""
    rests, rest = [], rest_number(1, worth(divisor))
    for step in range(length):
        rests.append(rest)
        rest = rest_number(rest << 1, worth(divisor))
    return rests


def odd_in_common(one, other):
    return bin(one & other).count("1") % 2


class PlacesMet(unittest.TestCase):
    def check(self, divisor, length, right):
        told = asked(self, places_met, divisor, length)
        self.assertIs(type(told), list)
        self.assertEqual(repr(told), repr(right), (divisor, length))

    def each_length(self, divisor, lengths):
        """Against the rests found step by step, one place more each time."""
        met = [0] * 2 ** (len(divisor) - 1)
        for length, rest in enumerate(walked_rests(divisor, 401)):
            if length in lengths:
                self.check(divisor, length, met)
            met = [many + odd_in_common(choosing, rest) for choosing, many in enumerate(met)]

    def test_by_hand(self):
        self.check((1, 1), 0, [0, 0])
        self.check((1, 1), 5, [0, 5])
        # The rests are 01, 10, 11, 01.
        self.check((1, 1, 1), 1, [0, 1, 0, 1])
        self.check((1, 1, 1), 2, [0, 1, 1, 2])
        self.check((1, 1, 1), 3, [0, 2, 2, 2])
        self.check((1, 1, 1), 4, [0, 3, 2, 3])
        # The rests are 01 and 10 in turn.
        self.check((1, 0, 1), 5, [0, 3, 2, 5])

    def test_all_divisors_of_small_sizes(self):
        for size in range(1, 5):
            for divisor in divisors_of(size):
                self.each_length(divisor, list(range(30)) + [399, 400])

    def test_each_length_to_four_hundred(self):
        dice = chance(240)
        for size in range(1, 9):
            self.each_length(some_divisor(dice, size), range(401) if size in (1, 3, 8) else range(0, 401, 16))

    def test_a_whole_round_of_a_full_one(self):
        # All rests but that of noughts once: each choosing with a 1 meets half of all.
        self.check((1, 0, 0, 0, 1, 1, 1, 0, 1), 255, [0] + [128] * 255)
        self.check((1, 0, 1, 1), 7, [0] + [4] * 7)

    def test_a_told_list_is_the_askers_own(self):
        right = repr(places_met((1, 0, 1, 1), 20))
        places_met((1, 0, 1, 1), 20).clear()
        self.assertEqual(repr(places_met((1, 0, 1, 1), 20)), right)

    def test_somewhat_beyond(self):
        dice = chance(241)
        for size, length in [(9, 30), (10, 12), (3, 420), (8, 401)]:
            divisor = some_divisor(dice, size)
            rests = walked_rests(divisor, length)
            right = [sum(odd_in_common(choosing, rest) for rest in rests) for choosing in range(2 ** size)]
            self.check(divisor, length, right)

    def test_no_divisor(self):
        for thing in NO_DIVISORS:
            for length in [0, 1, 400]:
                assert_refused(self, NoDivisor, places_met, thing, length)
