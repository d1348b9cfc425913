import unittest

from checkrows.divisors import divisors_of
from checkrows.errors import NoDivisor
from checkrows.farweights import far_weight
from checkrows.halves import halves_paper
from checkrows.leasts import least_of
from checkrows.rounds import round_of
from checkrows.spans import span_of
from checkrows.turned import turned_row
from tests.helper import asked, assert_refused, chance, some_divisor
from tests.test_divisors import NO_DIVISORS
from tests.test_farweights import walked_weights


class SpanOf(unittest.TestCase):
    def check(self, divisor, number, right):
        self.assertEqual(repr(asked(self, span_of, divisor, number)), repr(right), (divisor, number))

    def slips_some(self, divisor, length, number):
        """Whether a change of the length with fewer places slips, by the far weights."""
        return any(far_weight(divisor, length, w) for w in range(1, number))

    def test_by_hand(self):
        for number, right in [(2, 400), (3, 1), (4, 1), (9, 1)]:
            self.check((1, 1), number, right)
        for number, right in [(2, 400), (3, 7), (4, 3), (5, 3), (9, 3)]:
            self.check((1, 0, 1, 1), number, right)
        # Times (1, 1): the odd ones are told, too.
        for number, right in [(2, 400), (3, 7), (4, 7), (5, 4), (6, 4)]:
            self.check((1, 1, 1, 0, 1), number, right)
        for number, right in [(2, 400), (3, 9), (9, 9)]:
            self.check((1,) * 9, number, right)
        self.check((1, 1, 1, 0, 1, 0, 0, 0, 1), 5, 15)

    def test_two_and_three(self):
        for size in range(1, 9):
            for divisor in divisors_of(size)[::1 if size < 6 else 7]:
                self.check(divisor, 2, 400)
                self.check(divisor, 3, round_of(divisor))

    def test_the_far_weights_at_the_span_and_one_further(self):
        dice = chance(260)
        divisors = [divisor for size in range(1, 5) for divisor in divisors_of(size)]
        divisors += [some_divisor(dice, size) for size in range(5, 9)]
        for divisor in divisors:
            for number in range(2, 10):
                span = asked(self, span_of, divisor, number)
                self.assertIs(type(span), int)
                self.assertFalse(self.slips_some(divisor, span, number), (divisor, number))
                if number > 2:
                    self.assertLess(span, 400)
                    self.assertTrue(self.slips_some(divisor, span + 1, number), (divisor, number))
                    self.assertTrue(self.slips_some(divisor, 400, number), (divisor, number))

    def test_every_length_by_the_rests(self):
        dice = chance(261)
        for size in [1, 2, 3, 4, 5, 6, 8]:
            divisor = some_divisor(dice, size)
            weights = walked_weights(divisor, range(300), 8)
            for number in range(2, 10):
                free = [length for length in range(300) if not any(weights[length][1:number])]
                span = span_of(divisor, number)
                self.assertEqual(free, list(range(min(span, 299) + 1)), (divisor, number))

    def test_the_leasts_and_halves_papers_agree(self):
        for size in range(1, 6):
            for divisor in divisors_of(size):
                for number in range(2, 10):
                    span = span_of(divisor, number)
                    for length in range(size + 1, 17):
                        self.assertIs(least_of(divisor, length)[0] >= number, length <= span, (divisor, number, length))
        for divisor in divisors_of(4):
            for number in range(2, 6):
                for length in range(12):
                    told = halves_paper(divisor, length, number - 1) is not None
                    self.assertIs(told, length <= span_of(divisor, number))

    def test_never_longer_for_a_greater_number_and_at_least_the_size(self):
        for size in range(1, 9):
            for divisor in divisors_of(size)[::5]:
                spans = [span_of(divisor, number) for number in range(2, 10)]
                self.assertEqual(spans, sorted(spans, reverse=True))
                self.assertGreaterEqual(spans[-1], size)
                self.assertEqual([span_of(turned_row(divisor), number) for number in range(2, 10)], spans)

    def test_somewhat_beyond(self):
        self.check((1, 0, 1, 1), 1, 400)
        self.check((1, 0, 1, 1), 0, 400)
        self.check((1, 0, 1, 1), 10, 3)
        self.check((1, 0, 0, 0, 0, 1, 0, 0, 0, 1), 3, 400)
        self.check((1, 0, 1, 0, 1, 1, 1, 0, 0, 0, 1, 1), 7, 23)

    def test_no_divisor(self):
        for thing in NO_DIVISORS:
            for number in [2, 3, 9]:
                assert_refused(self, NoDivisor, span_of, thing, number)
