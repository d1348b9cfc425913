"""What points 1 to 3 promise over the whole program, and the interface as the document lists it."""

import copy
import importlib
import inspect
import unittest

from checkrows.bestpapers import best_paper, lets_best
from checkrows.bursts import burst_length, slipping_bursts
from checkrows.changes import ones_in, places_in, slips
from checkrows.checks import check_of, checked_row, is_whole
from checkrows.desk import Desk
from checkrows.divisors import divisors_of, size_of
from checkrows.farweights import far_weight
from checkrows.halves import halves_paper
from checkrows.keeper import Keeper
from checkrows.leasts import least_of
from checkrows.middles import changed_check
from checkrows.pairs import odd_told, pair_slips
from checkrows.pieces import joined_check, parted_check
from checkrows.places import found_places
from checkrows.reader import read_round, read_row, read_style
from checkrows.roundpapers import lets_round, round_paper
from checkrows.rounds import round_of
from checkrows.rows import row_of
from checkrows.spans import span_of
from checkrows.sums import plus_rows
from checkrows.tables import check_by
from checkrows.texts import show_round, show_row, show_style
from checkrows.turned import turned_row
from checkrows.weights import weights_of
from tests.helper import asked, chance, plain, some_row, some_style

STYLE = ((1, 0, 1, 1), (0, 1, 0), (1, 1, 0))
D, ROW = STYLE[0], (1, 0, 1, 1, 0, 0, 1)
SHEET = [(1, 0, 1, 1), (0, 1, 1, 0), (1, 1, 1, 1)]

# Every function of the interface, with arguments that it takes.
FUNCTIONS = {
    "rows": {"is_row": (ROW,), "row_of": (7, 89), "number_of": (ROW,), "short_row": ((0, 0, 1, 0),)},
    "sums": {"plus_rows": ((1, 0), (1, 1)), "times_rows": ((1, 0), (1, 1))},
    "division": {"divided": (ROW, D), "rest_of": (ROW, D)},
    "divisors": {"is_divisor": (D,), "size_of": (D,), "divisors_of": (3,), "power_rest": (D, 10 ** 29)},
    "common": {"common_of": (ROW, (1, 1, 0, 1, 1)), "product_of": (D, (1, 1))},
    "styles": {"is_style": (STYLE,)},
    "checks": {"check_of": (STYLE, ROW), "checked_row": (STYLE, ROW), "is_whole": (STYLE, ROW)},
    "tables": {"table_of": (D, 2), "check_by": (STYLE, 2, ROW)},
    "moves": {"moved_rest": (D, (1, 0, 1), -5)},
    "pieces": {"joined_check": (STYLE, (1, 0, 0), (0, 1, 1), 4), "parted_check": (STYLE, (1, 0, 0), (0, 1, 1), 4)},
    "middles": {"changed_check": (STYLE, (1, 0, 0), (1, 1), (0, 1), 3)},
    "rounds": {"round_of": (D,)},
    "roundpapers": {"lets_round": (D, (7, [(7, 1)])), "round_paper": (D,)},
    "changes": {"slips": (D, ROW), "ones_in": (ROW,), "places_in": (ROW,)},
    "bursts": {"burst_length": (ROW,), "many_bursts": (9, 5), "slipping_bursts": (D, 9, 5)},
    "pairs": {"pair_slips": (D, 14), "odd_told": (D,)},
    "weights": {"weights_of": (D, 9)},
    "leasts": {"least_of": (D, 9)},
    "halves": {"lets_halves": (D, 2, 1, ([((0, 0, 0), ())], [((0, 0, 1), (1,)), ((0, 1, 0), (0,))])),
               "halves_paper": (D, 7, 2)},
    "places": {"found_places": (STYLE, ROW), "found_sets": (STYLE, ROW, 2)},
    "best": {"best_of": (3, 7)},
    "bestpapers": {"lets_best": (3, 7, best_paper(3, 7)), "best_paper": (3, 7)},
    "turned": {"turned_row": (ROW,)},
    "sheets": {"is_sheet": (SHEET,), "laid_rows": (SHEET,), "parted_rows": (ROW + (1,), 4),
               "broken_rows": (STYLE, SHEET)},
    "texts": {"show_row": (ROW,), "show_style": (STYLE,), "show_places": ([3, 1],), "show_round": ((4, [(2, 2)]),)},
    "reader": {"read_row": ("101",), "read_style": ("1011 010 110",), "read_round": ("15 = 3^1 * 5^1",)},
    "choosings": {"places_met": (D, 40)},
    "farweights": {"far_weight": (D, 40, 4)},
    "spans": {"span_of": (D, 3)},
}
METHODS = {
    "keeper": ("Keeper", 2, {"put": 1, "off": 1, "change": 2, "back": 0, "again": 0, "row": 0, "check": 0, "many": 0,
                             "whole": 1}),
    "desk": ("Desk", 1, {"say": 1}),
}


def each_function():
    for module, functions in FUNCTIONS.items():
        for name, handed in functions.items():
            yield getattr(importlib.import_module("checkrows." + module), name), handed


def emptied(thing):
    """Empties every list within a thing, the innermost ones first."""
    if isinstance(thing, (list, tuple)):
        for part in thing:
            emptied(part)
    if isinstance(thing, list):
        thing.clear()


def taken(function):
    """How many arguments a function takes by their places."""
    return [part.kind for part in inspect.signature(function).parameters.values()]


class Interface(unittest.TestCase):
    def test_functions_take_as_many_as_are_listed(self):
        for function, handed in each_function():
            kinds = taken(function)
            self.assertEqual(kinds, [inspect.Parameter.POSITIONAL_OR_KEYWORD] * len(handed), function)

    def test_methods_stand_in_their_class(self):
        for module, (name, many, methods) in METHODS.items():
            made = getattr(importlib.import_module("checkrows." + module), name)
            self.assertEqual(len(taken(made)), many)
            for method, many in methods.items():
                self.assertIn(method, vars(made))
                self.assertEqual(len(taken(vars(made)[method])), many + 1)


class PlainAndOwn(unittest.TestCase):
    def test_what_is_handed_in_stays_and_what_is_told_is_the_askers_own(self):
        for function, handed in each_function():
            told = asked(self, function, *handed)
            right = repr(told)
            later = function(*copy.deepcopy(handed))
            self.assertEqual(repr(later), right, function)
            emptied(later)
            self.assertEqual(repr(told), right, function)
            emptied(told)
            self.assertEqual(repr(function(*handed)), right, function)

    def test_what_is_handed_in_is_not_what_is_told(self):
        # A list that is changed once it was handed in changes nothing that was told.
        for function, handed in each_function():
            mine = copy.deepcopy(handed)
            told = function(*mine)
            right = repr(told)
            emptied(mine)
            self.assertEqual(repr(told), right, function)

    def test_a_keeper_and_a_desk_are_not_their_answers(self):
        keeper, desk = Keeper(STYLE, ROW), Desk("1011 010 110 1011001")
        told = [keeper.row(), keeper.check(), keeper.put((1, 1)), keeper.row()]
        said = [desk.say("row"), desk.say("check"), desk.say("put 11"), desk.say("row")]
        before = repr((told, said))
        keeper.off(9)
        desk.say("off 9")
        self.assertTrue(plain(told + said))
        self.assertEqual(repr((told, said)), before)
        self.assertEqual([show_row(row) for row in told], said)


class OneCheck(unittest.TestCase):
    def test_every_way_to_a_check_tells_the_same(self):
        dice = chance(280)
        for size in range(1, 17):
            for many in [0, 1, 9, 60]:
                style, row = some_style(dice, size), some_row(dice, many)
                right = check_of(style, row)
                for width in range(1, 9):
                    self.assertEqual(check_by(style, width, row), right)
                at = dice.randrange(many + 1)
                first, second = check_of(style, row[:at]), check_of(style, row[at:])
                self.assertEqual(joined_check(style, first, second, many - at), right)
                self.assertEqual(parted_check(style, right, second, many - at), first)
                old = some_row(dice, at)
                before = check_of(style, old + row[at:])
                self.assertEqual(changed_check(style, before, old, row[:at], many - at), right)
                keeper = Keeper(style, old + row[at:])
                self.assertEqual(keeper.change(0, row[:at]), right)
                self.assertEqual(keeper.back(), before)
                self.assertEqual(keeper.again(), right)
                self.assertIs(keeper.whole(right), True)
                desk = Desk(f"{show_style(style)} {show_row(row)}")
                self.assertEqual(read_row(desk.say("check")), right)
                self.assertIs(is_whole(style, checked_row(style, row)), True)

    def test_whether_a_change_slips_hangs_on_the_change_alone(self):
        dice = chance(281)
        for size in range(1, 5):
            for divisor in divisors_of(size):
                for step in range(4):
                    style = (divisor, some_row(dice, size), some_row(dice, size))
                    whole = checked_row(style, some_row(dice, 7 - size))
                    for number in range(1, 2 ** 7):
                        change = row_of(7, number)
                        self.assertIs(is_whole(style, plus_rows(whole, change)), slips(divisor, change))


class WhichChanges(unittest.TestCase):
    def test_all_changes_of_small_lengths(self):
        for size in range(1, 5):
            for divisor in divisors_of(size):
                for length in range(9):
                    changes = [row_of(length, number) for number in range(1, 2 ** length)]
                    self.compare(divisor, length, [change for change in changes if slips(divisor, change)])

    def compare(self, divisor, length, slipping):
        """All that is told of a length, against all changes of it that slip."""
        longs = [burst_length(change) for change in slipping]
        for long in range(1, length + 2):
            self.assertEqual(slipping_bursts(divisor, length, long), longs.count(long))
        self.assertNotIn(True, [long <= size_of(divisor) for long in longs])
        manys = [ones_in(change) for change in slipping]
        self.assertEqual(weights_of(divisor, length)[1:], [manys.count(w) for w in range(1, length + 1)])
        for w in range(1, 9):
            self.assertEqual(far_weight(divisor, length, w), manys.count(w))
        for number in range(2, 10):
            self.assertIs(length <= span_of(divisor, number), min(manys, default=99) >= number)
        least = least_of(divisor, length)
        self.assertEqual(least and least[0], min(manys, default=None))
        for most in range(5):
            self.assertIs(halves_paper(divisor, length, most) is None, min(manys, default=99) <= most)
        pairs = [places_in(change) for change in slipping if ones_in(change) == 2]
        for apart in range(1, length):
            alike = [pair for pair in pairs if pair[1] - pair[0] == apart]
            self.assertEqual(len(alike), length - apart if pair_slips(divisor, apart) else 0)
            self.assertIs(pair_slips(divisor, apart), apart % round_of(divisor) == 0)
        if length > size_of(divisor):
            self.assertIs(odd_told(divisor), all(many % 2 == 0 for many in manys))
        turned = [turned_row(change) for change in slipping]
        self.assertTrue(all(slips(turned_row(divisor), change) for change in turned))

    def test_one_changed_place(self):
        for size in range(1, 5):
            for divisor in divisors_of(size):
                style = (divisor, (1,) * size, (0,) * size)
                n = round_of(divisor)
                for length in range(size, 20):
                    whole = checked_row(style, (1,) * (length - size))
                    for place in range(length):
                        row = whole[:place] + (1 - whole[place],) + whole[place + 1:]
                        self.assertEqual(found_places(style, row), list(range(place % n, length, n)))


class ToldAndHandedInAgain(unittest.TestCase):
    def test_papers(self):
        for size in range(1, 6):
            for divisor in divisors_of(size):
                paper = read_round(show_round(round_paper(divisor)))
                self.assertIs(lets_round(divisor, paper), True)
            self.assertIs(lets_best(size, 9, best_paper(size, 9)), True)

    def test_what_is_written_is_read_back(self):
        dice = chance(282)
        for size in range(1, 17):
            style, row = some_style(dice, size), some_row(dice, 420 - size)
            self.assertEqual(read_style(show_style(style)), style)
            self.assertEqual(read_row(show_row(row)), row)
