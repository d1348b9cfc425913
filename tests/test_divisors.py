import unittest

from checkrows.division import rest_of
from checkrows.divisors import divisors_of, is_divisor, power_rest, size_of
from checkrows.errors import NoDivisor
from checkrows.rows import number_of, row_of
from tests.helper import NO_ROWS, assert_refused, chance, plain, plain_row, rest_number, some_divisor, worth

NO_DIVISORS = NO_ROWS + [
    (), (0,), (1,), (0, 0), (0, 1), (1, 0), (0, 1, 1), (1, 1, 0), (0, 1, 0),
    (0,) + (1,) * 16, (1,) * 16 + (0,), (1,) * 18, (1,) + (0,) * 16 + (1,), (1,) * 420,
]


def power_by_walking(divisor, n):
    """x to the n by one place a step, in numbers."""
    by, rest = worth(divisor), rest_number(1, worth(divisor))
    for step in range(n):
        rest = rest_number(rest << 1, by)
    return row_of(len(divisor) - 1, rest)


class IsDivisor(unittest.TestCase):
    def test_divisors(self):
        for divisor in [(1, 1), (1, 0, 1), (1, 1, 1), (1,) * 17, (1,) + (0,) * 15 + (1,)]:
            self.assertIs(is_divisor(divisor), True, divisor)

    def test_of_whatever_it_is(self):
        for thing in NO_DIVISORS:
            self.assertIs(is_divisor(thing), False, thing)


class SizeOf(unittest.TestCase):
    def test_each_size(self):
        dice = chance(9)
        for size in range(1, 17):
            told = size_of(some_divisor(dice, size))
            self.assertEqual(told, size)
            self.assertIs(type(told), int)

    def test_no_divisor(self):
        for thing in NO_DIVISORS:
            assert_refused(self, NoDivisor, size_of, thing)


class DivisorsOf(unittest.TestCase):
    def test_by_hand(self):
        self.assertEqual(divisors_of(1), [(1, 1)])
        self.assertEqual(divisors_of(2), [(1, 0, 1), (1, 1, 1)])
        self.assertEqual(divisors_of(3), [(1, 0, 0, 1), (1, 0, 1, 1), (1, 1, 0, 1), (1, 1, 1, 1)])

    def test_all_sizes(self):
        for size in range(1, 9):
            told = divisors_of(size)
            self.assertIs(type(told), list)
            self.assertTrue(plain(told))
            rows = [row_of(size + 1, number) for number in range(2 ** (size + 1))]
            self.assertEqual(told, [row for row in rows if is_divisor(row)])
            self.assertEqual(told, sorted(set(told)))

    def test_sizes_somewhat_beyond(self):
        self.assertEqual(divisors_of(0), [])
        self.assertEqual(len(divisors_of(9)), 256)
        self.assertEqual(len(divisors_of(16)), 2 ** 15)
        self.assertEqual(divisors_of(17), [])

    def test_a_told_list_is_the_askers_own(self):
        for size in [1, 4]:
            told = divisors_of(size)
            right = list(told)
            told.append((1, 1))
            told[0] = "other"
            self.assertEqual(divisors_of(size), right)


class PowerRest(unittest.TestCase):
    def test_by_nought(self):
        dice = chance(10)
        for size in range(1, 17):
            self.assertEqual(power_rest(some_divisor(dice, size), 0), (0,) * (size - 1) + (1,))

    def test_of_size_one(self):
        for n in [0, 1, 2, 3, 100, 10 ** 29, 10 ** 30 - 1]:
            self.assertEqual(power_rest((1, 1), n), (1,))

    def test_small_n_against_long_division(self):
        dice = chance(11)
        for size in list(range(1, 9)) + [15, 16]:
            divisor = some_divisor(dice, size)
            for n in list(range(40)) + [64, 127, 255, 400, 419]:
                told = power_rest(divisor, n)
                self.assertTrue(plain_row(told))
                self.assertEqual(len(told), size)
                self.assertEqual(told, rest_of((1,) + (0,) * n, divisor), (divisor, n))
                self.assertEqual(told, power_by_walking(divisor, n))

    def test_n_of_thirty_figures(self):
        # The powers come round, so a small n tells what a great one must be.
        for divisor in [(1, 0, 1, 1), (1, 1, 1), (1, 0, 0, 1, 1), (1, 1, 0, 1, 0, 1), (1, 0, 0, 0, 1)]:
            round_long = 1
            while power_by_walking(divisor, round_long) != power_by_walking(divisor, 0):
                round_long += 1
            for n in [10 ** 29, 10 ** 30 - 1, 987654321012345678909876543210, 2 ** 98 + 1, 2 ** 98 - 1]:
                self.assertEqual(power_rest(divisor, n), power_by_walking(divisor, n % round_long), (divisor, n))

    def test_great_powers_add_up(self):
        dice = chance(12)
        for size in [7, 13, 16]:
            divisor = some_divisor(dice, size)
            n, more = dice.randrange(10 ** 29, 10 ** 30), dice.randrange(300)
            longer = power_rest(divisor, n) + (0,) * more
            self.assertEqual(power_rest(divisor, n + more), rest_of(longer, divisor))

    def test_all_powers_of_a_whole_round(self):
        seen = [number_of(power_rest((1, 0, 0, 1, 0, 1), n)) for n in range(31)]
        self.assertEqual(sorted(seen), list(range(1, 32)))

    def test_no_divisor(self):
        for thing in NO_DIVISORS:
            assert_refused(self, NoDivisor, power_rest, thing, 0)
            assert_refused(self, NoDivisor, power_rest, thing, 10 ** 29)
