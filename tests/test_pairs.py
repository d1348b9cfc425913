import unittest

from checkrows.changes import slips
from checkrows.divisors import divisors_of
from checkrows.errors import NoDivisor
from checkrows.pairs import odd_told, pair_slips
from checkrows.rounds import round_of
from checkrows.rows import row_of
from tests.helper import asked, assert_refused, chance, some_divisor
from tests.test_divisors import NO_DIVISORS


class PairSlips(unittest.TestCase):
    def test_by_hand(self):
        told = [
            ((1, 1), 1, True), ((1, 1), 2, True), ((1, 0, 1), 1, False), ((1, 0, 1), 2, True), ((1, 0, 1), 3, False),
            ((1, 0, 1, 1), 6, False), ((1, 0, 1, 1), 7, True), ((1, 0, 1, 1), 8, False), ((1, 0, 1, 1), 14, True),
        ]
        for divisor, apart, right in told:
            self.assertIs(asked(self, pair_slips, divisor, apart), right, (divisor, apart))

    def test_just_where_such_a_change_slips(self):
        for size in range(1, 6):
            for divisor in divisors_of(size):
                for apart in range(1, 70):
                    pair = (0,) + (1,) + (0,) * (apart - 1) + (1, 0, 0)
                    self.assertIs(pair_slips(divisor, apart), slips(divisor, pair), (divisor, apart))

    def test_about_the_round_and_its_multiples(self):
        dice = chance(120)
        for size in list(range(1, 17)) * 2:
            divisor = some_divisor(dice, size)
            n = round_of(divisor)
            for times in [1, 2, 3, 1000]:
                self.assertIs(pair_slips(divisor, n * times), True)
                self.assertIs(pair_slips(divisor, n * times + 1), n == 1)
                if n * times > 1:
                    self.assertIs(pair_slips(divisor, n * times - 1), n == 1)

    def test_thirty_figures_apart(self):
        dice = chance(121)
        for size in range(1, 17):
            divisor = some_divisor(dice, size)
            n = round_of(divisor)
            multiple = (10 ** 30 - 1) // n * n
            self.assertEqual(len(str(multiple)), 30)
            self.assertIs(asked(self, pair_slips, divisor, multiple), True)
            for apart in [multiple - 1, 10 ** 29, 10 ** 30 - 1, dice.randrange(10 ** 29, 10 ** 30)]:
                self.assertIs(asked(self, pair_slips, divisor, apart), apart % n == 0)

    def test_no_divisor(self):
        for thing in NO_DIVISORS:
            for apart in [1, 7, 10 ** 29]:
                assert_refused(self, NoDivisor, pair_slips, thing, apart)


class OddTold(unittest.TestCase):
    def test_by_hand(self):
        told = [((1, 1), True), ((1, 0, 1), True), ((1, 1, 1), False), ((1, 0, 1, 1), False), ((1, 1, 1, 1), True)]
        for divisor, right in told:
            self.assertIs(asked(self, odd_told, divisor), right, divisor)

    def test_just_where_no_odd_change_slips(self):
        for size in range(1, 5):
            for divisor in divisors_of(size):
                for many in range(size + 1, 10):
                    odd = [row_of(many, number) for number in range(2 ** many) if bin(number).count("1") % 2 == 1]
                    none = not any(slips(divisor, row) for row in odd)
                    self.assertIs(odd_told(divisor), none, (divisor, many))

    def test_each_size(self):
        dice = chance(122)
        for size in list(range(1, 17)) * 3:
            divisor = some_divisor(dice, size)
            self.assertIs(asked(self, odd_told, divisor), sum(divisor) % 2 == 0)

    def test_no_divisor(self):
        for thing in NO_DIVISORS:
            assert_refused(self, NoDivisor, odd_told, thing)
