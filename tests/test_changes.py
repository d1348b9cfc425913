import unittest

from checkrows.changes import ones_in, places_in, slips
from checkrows.checks import checked_row, is_whole
from checkrows.division import rest_of
from checkrows.divisors import divisors_of
from checkrows.errors import NoDivisor
from checkrows.rows import row_of
from checkrows.sums import plus_rows, times_rows
from tests.helper import asked, assert_refused, chance, rest_number, some_divisor, some_row, some_style, worth
from tests.test_checks import all_styles
from tests.test_divisors import NO_DIVISORS


class Slips(unittest.TestCase):
    def test_by_hand(self):
        told = [
            ((1, 1), (1, 1), True), ((1, 1), (1, 0), False), ((1, 1), (0, 1, 0, 1), True), ((1, 1), (1, 1, 1), False),
            ((1, 0, 1, 1), (1, 0, 1, 1), True), ((1, 0, 1, 1), (0, 1, 0, 1, 1, 0), True),
            ((1, 0, 1, 1), (1, 1, 0, 1), False), ((1, 0, 1, 1), (1, 1), False), ((1, 0, 1, 1), (1,), False),
        ]
        for divisor, row, right in told:
            self.assertIs(asked(self, slips, divisor, row), right, (divisor, row))

    def test_a_row_without_a_one_slips_not(self):
        dice = chance(100)
        for size in range(1, 17):
            divisor = some_divisor(dice, size)
            for many in [0, 1, size - 1, size, size + 1, 100, 400, 420]:
                self.assertIs(asked(self, slips, divisor, (0,) * many), False)

    def test_all_short_rows_against_long_division(self):
        for size in range(1, 5):
            for divisor in divisors_of(size):
                for many in range(9):
                    for number in range(2 ** many):
                        right = number > 0 and rest_number(number, worth(divisor)) == 0
                        self.assertIs(slips(divisor, row_of(many, number)), right)

    def test_long_rows(self):
        dice = chance(101)
        for size in range(1, 17):
            divisor = some_divisor(dice, size)
            for many in [size + 1, 30, 400, 420]:
                multiple = times_rows(divisor, (1,) + some_row(dice, many - size - 1))
                self.assertIs(asked(self, slips, divisor, multiple), True)
                row = some_row(dice, many)
                self.assertIs(slips(divisor, row), any(row) and not any(rest_of(row, divisor)))

    def test_a_whole_row_with_a_change_is_whole_just_where_it_slips_by_every_style(self):
        for style in all_styles(1) + all_styles(2):
            for many in range(4):
                whole = checked_row(style, row_of(many, 2 ** many // 3))
                for number in range(1, 2 ** len(whole)):
                    change = row_of(len(whole), number)
                    self.assertIs(is_whole(style, plus_rows(whole, change)), slips(style[0], change))

    def test_a_changed_row_of_each_size(self):
        dice = chance(102)
        for size in range(1, 17):
            style = some_style(dice, size)
            whole = checked_row(style, some_row(dice, 50))
            for change in [times_rows(style[0], some_row(dice, 49) + (1,)), some_row(dice, 49 + size) + (1,)]:
                self.assertIs(is_whole(style, plus_rows(whole, change)), slips(style[0], change))

    def test_no_divisor(self):
        for thing in NO_DIVISORS:
            for row in [(), (0, 0), (1,), (1, 0, 1, 1), (1,) * 420]:
                assert_refused(self, NoDivisor, slips, thing, row)


class OnesAndPlaces(unittest.TestCase):
    def test_by_hand(self):
        told = [
            ((), []), ((0,), []), ((1,), [0]), ((0, 0, 0), []), ((1, 0, 1), [0, 2]), ((0, 1, 1, 0, 1, 0), [1, 2, 4]),
            ((0,) * 420, []), ((1,) * 420, list(range(420))), ((0,) * 419 + (1,), [419]),
        ]
        for row, places in told:
            self.assertEqual(repr(asked(self, places_in, row)), repr(places))
            self.assertEqual(repr(asked(self, ones_in, row)), repr(len(places)))

    def test_rows_by_chance(self):
        dice = chance(103)
        for many in range(60):
            row = some_row(dice, many)
            places = asked(self, places_in, row)
            self.assertEqual(places, sorted(set(places)))
            self.assertEqual(row, tuple(1 if at in places else 0 for at in range(many)))
            self.assertEqual(asked(self, ones_in, row), sum(row))

    def test_told_places_are_the_askers_own(self):
        row = (1, 0, 1)
        told = places_in(row)
        told.append(7)
        self.assertEqual(places_in(row), [0, 2])
