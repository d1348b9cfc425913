import unittest

from checkrows.best import best_of
from checkrows.bursts import slipping_bursts
from checkrows.changes import slips
from checkrows.divisors import divisors_of, is_divisor, size_of
from checkrows.leasts import least_of
from checkrows.rounds import round_of
from checkrows.rows import row_of
from checkrows.turned import turned_row
from checkrows.weights import weights_of
from tests.helper import asked, chance, plain_row, some_divisor, some_row


class TurnedRow(unittest.TestCase):
    def test_by_hand(self):
        for row, turned in [((), ()), ((0,), (0,)), ((1,), (1,)), ((1, 0), (0, 1)), ((1, 0, 1, 1), (1, 1, 0, 1)),
                            ((0, 0, 1), (1, 0, 0)), ((1, 0, 1), (1, 0, 1)), ((0, 1, 1, 0), (0, 1, 1, 0))]:
            self.assertEqual(repr(asked(self, turned_row, row)), repr(turned))

    def test_each_bit_from_behind_and_twice_it_is_the_row(self):
        dice = chance(180)
        for many in [0, 1, 2, 3, 17, 100, 399, 400, 419, 420]:
            row = some_row(dice, many)
            told = asked(self, turned_row, row)
            self.assertTrue(plain_row(told))
            self.assertEqual(len(told), many)
            for at in range(many):
                self.assertEqual(told[at], row[many - 1 - at])
            self.assertEqual(turned_row(told), row)

    def test_rows_that_read_alike_from_behind(self):
        dice = chance(181)
        for many in range(20):
            half = some_row(dice, many)
            for row in [half + half[::-1], half + (1,) + half[::-1], (0,) * many, (1,) * many]:
                self.assertEqual(turned_row(row), row)

    def test_a_divisor_turned_about_is_one_of_its_size(self):
        for size in range(1, 9):
            turned = [turned_row(divisor) for divisor in divisors_of(size)]
            self.assertEqual(sorted(turned), divisors_of(size))
        dice = chance(182)
        for size in range(9, 17):
            divisor = some_divisor(dice, size)
            self.assertTrue(is_divisor(turned_row(divisor)))
            self.assertEqual(size_of(turned_row(divisor)), size)

    def test_a_change_slips_just_where_it_does_turned_about(self):
        for size in range(1, 5):
            for divisor in divisors_of(size):
                for many in range(8):
                    for number in range(2 ** many):
                        row = row_of(many, number)
                        told = slips(turned_row(divisor), row)
                        self.assertIs(told, slips(divisor, turned_row(row)), (divisor, row))

    def test_they_tell_as_much(self):
        for size in range(1, 6):
            for divisor in divisors_of(size):
                turned = turned_row(divisor)
                self.assertEqual(round_of(turned), round_of(divisor))
                for length in [0, size, size + 1, 9, 16, 24]:
                    self.assertEqual(weights_of(turned, length), weights_of(divisor, length))
                    one, other = least_of(turned, length), least_of(divisor, length)
                    self.assertEqual(one and one[0], other and other[0])
                    for long in [1, size, size + 1, size + 3]:
                        bursts = slipping_bursts(turned, length, long)
                        self.assertEqual(bursts, slipping_bursts(divisor, length, long))

    def test_best_just_where_best_turned_about(self):
        for size in range(1, 6):
            for length in [size + 1, 10, 16]:
                best = best_of(size, length)[1]
                for divisor in divisors_of(size):
                    self.assertIs(divisor in best, turned_row(divisor) in best)
