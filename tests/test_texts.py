import unittest

from checkrows.divisors import divisors_of
from checkrows.errors import NoStyle
from checkrows.reader import read_round, read_row, read_style
from checkrows.roundpapers import round_paper
from checkrows.texts import show_places, show_round, show_row, show_style
from tests.helper import asked, assert_refused, chance, some_divisor, some_row, some_style
from tests.test_styles import NO_STYLES


def shown(case, show, thing):
    """The text that is told, of a text's own kind and with plain signs alone."""
    told = asked(case, show, thing)
    case.assertIs(type(told), str)
    case.assertRegex(told, r"\A[ -~]+\Z")
    return told


class ShowRow(unittest.TestCase):
    def test_by_hand(self):
        for row, text in [((), "-"), ((0,), "0"), ((1,), "1"), ((0, 0), "00"), ((1, 0, 1, 1), "1011")]:
            self.assertEqual(shown(self, show_row, row), text)

    def test_every_length_read_back(self):
        dice = chance(220)
        for many in list(range(30)) + [399, 400, 401, 419, 420]:
            row = some_row(dice, many)
            told = shown(self, show_row, row)
            self.assertEqual(len(told), max(1, many))
            self.assertEqual(repr(read_row(told)), repr(row))


class ShowStyle(unittest.TestCase):
    def test_by_hand(self):
        self.assertEqual(shown(self, show_style, ((1, 1), (0,), (1,))), "11 0 1")
        self.assertEqual(shown(self, show_style, ((1, 0, 1, 1), (0, 1, 0), (1, 1, 0))), "1011 010 110")

    def test_each_size_read_back(self):
        dice = chance(221)
        for size in range(1, 17):
            style = some_style(dice, size)
            told = shown(self, show_style, style)
            self.assertEqual(told.split(" "), [show_row(part) for part in style])
            self.assertEqual(repr(read_style(told)), repr(style))

    def test_no_style(self):
        for thing in NO_STYLES:
            assert_refused(self, NoStyle, show_style, thing)


class ShowPlaces(unittest.TestCase):
    def test_none_one_several(self):
        for places, text in [([], "none"), ([0], "0"), ([7], "7"), ([10], "10"), ([1, 2], "1,2"), ([0, 0], "0,0"),
                             ([2, 11, 419], "2,11,419")]:
            self.assertEqual(shown(self, show_places, places), text)

    def test_in_the_order_of_the_list(self):
        self.assertEqual(shown(self, show_places, [9, 3, 3, 0, 12, 1]), "9,3,3,0,12,1")
        self.assertEqual(shown(self, show_places, [5, 4]), "5,4")

    def test_thirty_figures_and_a_thousand_places(self):
        self.assertEqual(shown(self, show_places, [10 ** 29, 10 ** 30 - 1]), "1" + "0" * 29 + "," + "9" * 30)
        places = list(range(999, -1, -1))
        self.assertEqual(shown(self, show_places, places).split(","), [str(place) for place in places])


class ShowRound(unittest.TestCase):
    def test_by_hand(self):
        for paper, text in [((1, []), "1 ="), ((2, [(2, 1)]), "2 = 2^1"), ((15, [(3, 1), (5, 1)]), "15 = 3^1 * 5^1"),
                            ((63, [(3, 2), (7, 1)]), "63 = 3^2 * 7^1"), ((0, []), "0 ="), ((7, [(0, 0)]), "7 = 0^0"),
                            ((65535, [(3, 1), (5, 1), (17, 1), (257, 1)]), "65535 = 3^1 * 5^1 * 17^1 * 257^1")]:
            self.assertEqual(shown(self, show_round, paper), text)

    def test_papers_of_rounds_read_back(self):
        dice = chance(222)
        divisors = [divisor for size in range(1, 7) for divisor in divisors_of(size)]
        divisors += [some_divisor(dice, size) for size in range(7, 17)]
        for divisor in divisors:
            paper = round_paper(divisor)
            self.assertEqual(repr(read_round(shown(self, show_round, paper))), repr(paper))

    def test_whatever_is_read_is_shown(self):
        # The form alone: neither primes, nor rising, nor a product.
        for paper in [(9, [(4, 0), (1, 1), (4, 7)]), (10 ** 30 - 1, [(10 ** 29, 10 ** 29)]), (0, [(0, 0)] * 500)]:
            self.assertEqual(repr(read_round(shown(self, show_round, paper))), repr(paper))
