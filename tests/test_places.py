import itertools
import unittest

from checkrows.checks import checked_row, is_whole
from checkrows.errors import NoStyle
from checkrows.leasts import least_of
from checkrows.places import found_places, found_sets
from checkrows.rounds import round_of
from checkrows.rows import row_of
from tests.helper import asked, assert_refused, chance, exchanged, some_row, some_style
from tests.test_checks import all_styles
from tests.test_styles import NO_STYLES


def places_by_trying(style, row):
    return [place for place in range(len(row)) if is_whole(style, exchanged(row, place))]


def sets_by_trying(style, row, most):
    sets = [places for many in range(most + 1) for places in itertools.combinations(range(len(row)), many)]
    return sorted(places for places in sets if is_whole(style, exchanged(row, *places)))


class FoundPlaces(unittest.TestCase):
    def check(self, style, row, right):
        told = asked(self, found_places, style, row)
        self.assertIs(type(told), list)
        self.assertEqual(repr(told), repr(right), (style, row))

    def test_by_hand(self):
        style = ((1, 0, 1, 1), (0, 0, 0), (0, 0, 0))
        self.check(style, (0, 0, 0, 0, 0, 0, 0), [])
        self.check(style, (0, 0, 1, 0, 0, 0, 0), [2])
        self.check(style, (0, 0, 1, 0, 0, 0, 0, 0), [2])
        self.check(style, (1, 0, 0, 0, 0, 0, 0, 0), [0, 7])
        self.check(((1, 1), (0,), (0,)), (1, 0, 0), [0, 1, 2])
        self.check(((1, 1), (1,), (0,)), (0,), [0])

    def test_all_small_styles_and_rows(self):
        for style in all_styles(1) + all_styles(2):
            for many in range(7):
                for number in range(2 ** many):
                    row = row_of(many, number)
                    self.check(style, row, places_by_trying(style, row))

    def test_each_size_by_trying(self):
        dice = chance(160)
        for size in range(1, 17):
            for many in [0, 1, size - 1, size, size + 1, 40]:
                style, row = some_style(dice, size), some_row(dice, many)
                self.check(style, row, places_by_trying(style, row))

    def test_of_fewer_bits_than_the_size(self):
        dice = chance(161)
        for size in range(1, 17):
            for many in range(size):
                self.check(some_style(dice, size), some_row(dice, many), [])

    def test_whole_rows(self):
        dice = chance(162)
        for size in range(1, 17):
            for many in [0, 1, 20, 384, 400, 420 - size]:
                style = some_style(dice, size)
                self.check(style, checked_row(style, some_row(dice, many)), [])

    def test_one_place_changed_of_no_more_bits_than_the_round(self):
        dice = chance(163)
        for size in range(2, 17):
            style = some_style(dice, size)
            many = min(round_of(style[0]), 400)
            if many >= size:
                whole = checked_row(style, some_row(dice, many - size))
                for place in [0, many - 1, dice.randrange(many), dice.randrange(many)]:
                    self.check(style, exchanged(whole, place), [place])

    def test_one_place_changed_of_more_bits(self):
        dice = chance(164)
        for size in range(1, 8):
            for many in [size, size + 1, 2 ** size, 2 ** size + 5, 400]:
                style = some_style(dice, size)
                n = round_of(style[0])
                whole = checked_row(style, some_row(dice, many))
                for place in [0, len(whole) - 1, dice.randrange(len(whole))]:
                    self.check(style, exchanged(whole, place), list(range(place % n, len(whole), n)))

    def test_a_told_list_is_the_askers_own(self):
        style, row = ((1, 0, 1, 1), (0, 0, 0), (0, 0, 0)), (1, 0, 0, 0, 0, 0, 0, 0)
        found_places(style, row).append(3)
        found_sets(style, row, 2).clear()
        self.assertEqual(found_places(style, row), [0, 7])
        self.assertEqual(found_sets(style, row, 1), [(0,), (7,)])

    def test_no_style(self):
        for thing in NO_STYLES:
            for row in [(), (1, 0, 1, 1), (1,) * 420]:
                assert_refused(self, NoStyle, found_places, thing, row)


class FoundSets(unittest.TestCase):
    def check(self, style, row, most, right):
        told = asked(self, found_sets, style, row, most)
        self.assertIs(type(told), list)
        self.assertEqual(repr(told), repr(right), (style, row, most))

    def test_by_hand(self):
        style = ((1, 0, 1, 1), (0, 0, 0), (0, 0, 0))
        self.check(style, (0, 0, 0, 0), 0, [()])
        self.check(style, (0, 0, 0, 0), 2, [()])
        self.check(style, (1, 0, 0, 0), 0, [])
        self.check(style, (1, 0, 0, 0), 1, [(0,)])
        self.check(style, (1, 0, 0, 0), 2, [(0,), (2, 3)])
        self.check(((1, 1), (0,), (0,)), (0, 0, 0), 2, [(), (0, 1), (0, 2), (1, 2)])

    def test_rows_of_no_bits_and_fewer_than_the_size(self):
        dice = chance(165)
        for size in range(1, 17):
            for many in range(size):
                for most in range(3):
                    self.check(some_style(dice, size), some_row(dice, many), most, [])

    def test_all_small_styles_and_rows(self):
        for style in all_styles(1) + all_styles(2):
            for many in range(6):
                for number in range(2 ** many):
                    row = row_of(many, number)
                    for most in range(3):
                        self.check(style, row, most, sets_by_trying(style, row, most))

    def test_each_size_by_trying(self):
        dice = chance(166)
        for size in range(1, 17):
            for many in [size, size + 1, size + 4]:
                style, row = some_style(dice, size), some_row(dice, many)
                for most in range(3):
                    self.check(style, row, most, sets_by_trying(style, row, most))

    def test_rows_of_sixty_bits(self):
        dice = chance(167)
        for size in [1, 5, 6, 16]:
            style = some_style(dice, size)
            whole = checked_row(style, some_row(dice, 60 - size))
            for row in [whole, exchanged(whole, 0), exchanged(whole, 59), exchanged(whole, 3, 40), some_row(dice, 60)]:
                for most in [0, 1]:
                    self.check(style, row, most, sets_by_trying(style, row, most))
            row = exchanged(whole, 7, 59)
            told = asked(self, found_sets, style, row, 2)
            self.assertEqual(repr(told), repr(sets_by_trying(style, row, 2)))
            self.assertIn((7, 59), told)

    def test_of_one_place_it_is_as_found_places(self):
        dice = chance(168)
        for size in [1, 3, 8]:
            style = some_style(dice, size)
            whole = checked_row(style, some_row(dice, 60 - size))
            for row in [whole, exchanged(whole, 11), some_row(dice, 60)]:
                alone = [places[0] for places in found_sets(style, row, 1) if len(places) == 1]
                self.assertEqual(alone, found_places(style, row))
                self.assertEqual(found_sets(style, row, 0), [()] if is_whole(style, row) else [])

    def test_where_few_changes_cannot_slip_just_the_changed_set_is_told(self):
        dice = chance(169)
        divisor = (1, 1, 1, 0, 1, 0, 0, 0, 1)
        self.assertEqual(least_of(divisor, 15)[0], 5)
        for step in range(5):
            style = (divisor, some_row(dice, 8), some_row(dice, 8))
            whole = checked_row(style, some_row(dice, 7))
            for many in range(3):
                for places in itertools.combinations(range(15), many):
                    self.check(style, exchanged(whole, *places), 2, [places])

    def test_at_most_one_where_few_changes_cannot_slip(self):
        dice = chance(170)
        for size in range(1, 9):
            for length in range(size, 13):
                style = some_style(dice, size)
                least = least_of(style[0], length)
                for most in range(3):
                    if least is None or least[0] > 2 * most:
                        self.assertLessEqual(len(found_sets(style, some_row(dice, length), most)), 1)

    def test_no_style(self):
        for thing in NO_STYLES:
            for row, most in [((), 0), ((1, 0, 1, 1), 2), ((1,) * 60, 1)]:
                assert_refused(self, NoStyle, found_sets, thing, row, most)
