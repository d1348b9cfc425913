import unittest

from checkrows.checks import check_of, checked_row, is_whole
from checkrows.errors import NoStyle
from checkrows.styles import is_style
from checkrows.tables import check_by
from tests.helper import NO_ROWS, assert_refused, chance, some_style
from tests.test_divisors import NO_DIVISORS

GOOD = ((1, 0, 1, 1), (0, 1, 0), (1, 1, 0))


def no_styles():
    divisor, begin, end = GOOD
    things = list(NO_ROWS) + [(), (1, 0, 1), (0, 0, 0), ((1, 1), (1, 1), (1, 1))]
    things += [list(GOOD), (list(divisor), begin, end), (divisor, list(begin), end), (divisor, begin, list(end))]
    things += [(divisor,), (divisor, begin), GOOD + ((),), GOOD + (end,), (GOOD,), (begin, divisor, end)]
    things += [{0: divisor, 1: begin, 2: end}, "1011 010 110", ("1011", "010", "110")]
    for wrong in [(), (0, 1), (0, 1, 0, 0), (True, 1, 0), (0, 1, False), (0, 2, 0), (0, None, 0)]:
        things += [(divisor, wrong, end), (divisor, begin, wrong), (divisor, wrong, wrong)]
    things += [((1, True, 1, 1), begin, end), ((True, 0, 1, 1), begin, end)]
    for thing in NO_DIVISORS:
        things.append((thing, begin, end))
        long = len(thing) - 1 if isinstance(thing, (tuple, list)) and thing else 0
        things.append((thing, (0,) * long, (0,) * long))
    for thing in NO_ROWS:
        things += [(divisor, thing, end), (divisor, begin, thing), (thing, thing, thing)]
    return things


NO_STYLES = no_styles()


class IsStyle(unittest.TestCase):
    def test_styles_of_each_size(self):
        dice = chance(30)
        for size in range(1, 17):
            style = some_style(dice, size)
            self.assertIs(is_style(style), True, style)
        self.assertIs(is_style(((1, 1), (0,), (1,))), True)
        self.assertIs(is_style(((1,) * 17, (0,) * 16, (1,) * 16)), True)

    def test_a_bit_longer_or_shorter(self):
        dice = chance(31)
        for size in range(1, 17):
            divisor, begin, end = some_style(dice, size)
            for row in [begin + (0,), begin[:-1], (0,) + begin]:
                self.assertIs(is_style((divisor, row, end)), False)
                self.assertIs(is_style((divisor, end, row)), False)
                self.assertIs(is_style((divisor, row, row)), False)

    def test_of_whatever_it_is(self):
        for thing in NO_STYLES:
            self.assertIs(is_style(thing), False, thing)

    def test_what_is_asked_of_is_as_it_was(self):
        thing = [(1, 1), [0], {"a": [1]}]
        is_style(thing)
        is_style(tuple(thing))
        self.assertEqual(thing, [(1, 1), [0], {"a": [1]}])


class NoStyleAheadOfAllElse(unittest.TestCase):
    def test_of_whatever_it_is(self):
        for thing in NO_STYLES:
            for row in [(), (1, 0, 1, 1, 0), (1,) * 400]:
                assert_refused(self, NoStyle, check_of, thing, row)
                assert_refused(self, NoStyle, checked_row, thing, row)
                assert_refused(self, NoStyle, is_whole, thing, row)
                assert_refused(self, NoStyle, check_by, thing, 3, row)
