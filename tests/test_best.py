import functools
import unittest

from checkrows.best import best_of
from checkrows.divisors import divisors_of
from checkrows.leasts import least_of
from checkrows.turned import turned_row
from tests.helper import asked, plain_row, spelled, worth

# Every size with every length that point 23 takes.
TAKEN = [(size, length) for size in range(1, 6) for length in range(size + 1, 17)]


@functools.cache
def multiples(divisor, length):
    """All rows of the length that the divisor divides, as numbers, the row without 1 first."""
    listed = [0]
    for shift in range(length - len(divisor) + 1):
        listed += [number ^ worth(divisor) << shift for number in listed]
    return tuple(listed)


@functools.cache
def least_number(divisor, length):
    """The fewest 1s of a change that slips, by all multiples."""
    return min(bin(number).count("1") for number in multiples(divisor, length)[1:])


def all_of_size(size):
    return [spelled(size + 1, number) for number in range(2 ** size + 1, 2 ** (size + 1), 2)]


def best_by_all(size, length):
    leasts = {divisor: least_number(divisor, length) for divisor in all_of_size(size)}
    number = max(leasts.values())
    return number, sorted(divisor for divisor in leasts if leasts[divisor] == number)


class BestOf(unittest.TestCase):
    def test_by_hand(self):
        self.assertEqual(best_of(1, 2), (2, [(1, 1)]))
        self.assertEqual(best_of(1, 16), (2, [(1, 1)]))
        self.assertEqual(best_of(2, 3), (3, [(1, 1, 1)]))
        self.assertEqual(best_of(2, 4), (2, [(1, 0, 1), (1, 1, 1)]))
        self.assertEqual(best_of(3, 4), (4, [(1, 1, 1, 1)]))
        self.assertEqual(best_of(3, 7), (3, [(1, 0, 1, 1), (1, 1, 0, 1)]))
        self.assertEqual(best_of(3, 8)[0], 2)
        self.assertEqual(best_of(4, 7), (4, [(1, 0, 1, 1, 1), (1, 1, 1, 0, 1)]))
        self.assertEqual(best_of(5, 6), (6, [(1, 1, 1, 1, 1, 1)]))

    def test_each_size_and_length_against_all_divisors(self):
        for size, length in TAKEN:
            told = asked(self, best_of, size, length)
            self.assertEqual(repr(told), repr(best_by_all(size, length)), (size, length))
            self.assertIs(type(told), tuple)
            self.assertIs(type(told[1]), list)
            self.assertTrue(all(plain_row(divisor) for divisor in told[1]))

    def test_just_those_that_have_the_greatest_least(self):
        for size, length in TAKEN:
            number, divisors = best_of(size, length)
            for divisor in divisors_of(size):
                least = least_of(divisor, length)[0]
                self.assertLessEqual(least, number)
                self.assertIs(divisor in divisors, least == number)

    def test_best_turned_about_too(self):
        for size, length in TAKEN:
            divisors = best_of(size, length)[1]
            self.assertEqual(sorted(turned_row(divisor) for divisor in divisors), divisors)

    def test_a_length_of_size_and_one_has_the_divisor_of_ones(self):
        for size in range(1, 6):
            self.assertEqual(best_of(size, size + 1), (size + 1, [(1,) * (size + 1)]))

    def test_a_told_list_is_the_askers_own(self):
        for size, length in TAKEN:
            told = best_of(size, length)
            right = repr(told)
            told[1].clear()
            told[1].append("other")
            self.assertEqual(repr(best_of(size, length)), right)

    def test_somewhat_beyond(self):
        for size, length in [(6, 7), (6, 17), (5, 17), (5, 18), (1, 17)]:
            self.assertEqual(repr(asked(self, best_of, size, length)), repr(best_by_all(size, length)))
        # No change of such a length slips, so that none of the size is better than another.
        for size in range(1, 6):
            for length in range(size + 1):
                self.assertEqual(asked(self, best_of, size, length), (0, divisors_of(size)))
        self.assertEqual(asked(self, best_of, 0, 4), (0, []))
