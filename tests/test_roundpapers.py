import unittest

from checkrows.divisors import divisors_of
from checkrows.errors import NoDivisor
from checkrows.roundpapers import lets_round, round_paper
from checkrows.rounds import round_of
from tests.helper import NO_ROWS, asked, assert_refused, chance, some_divisor
from tests.test_divisors import NO_DIVISORS

# Their rounds are 15, 31, 63, 2, 4, 12 and 255.
DIVISORS = [
    (1, 0, 0, 1, 1), (1, 0, 0, 1, 0, 1), (1, 0, 0, 0, 0, 1, 1), (1, 0, 1), (1, 1, 1, 1), (1, 1, 0, 1, 0, 1, 1),
    (1, 0, 0, 0, 1, 1, 1, 0, 1),
]
FIFTEEN = (1, 0, 0, 1, 1)


def plain_primes(n):
    """The right list of primes of n, by trying all."""
    return [(by, often_in(n, by)) for by in range(2, n + 1) if n % by == 0 and is_plain_prime(by)]


def often_in(n, by):
    often = 0
    while n % by == 0:
        n //= by
        often += 1
    return often


def is_plain_prime(n):
    return n > 1 and all(n % by for by in range(2, n))


class RoundPaper(unittest.TestCase):
    def test_by_hand(self):
        told = [
            ((1, 1), (1, [])), ((1, 0, 1), (2, [(2, 1)])), ((1, 1, 1), (3, [(3, 1)])), ((1, 1, 1, 1), (4, [(2, 2)])),
            (FIFTEEN, (15, [(3, 1), (5, 1)])), ((1, 0, 0, 0, 0, 1, 1), (63, [(3, 2), (7, 1)])),
            ((1,) + (0,) * 15 + (1,), (16, [(2, 4)])),
            ((1,) + (0,) * 10 + (1, 0, 1, 1, 0, 1), (65535, [(3, 1), (5, 1), (17, 1), (257, 1)])),
        ]
        for divisor, paper in told:
            self.assertEqual(repr(asked(self, round_paper, divisor)), repr(paper))
            self.assertIs(asked(self, lets_round, divisor, paper), True)

    def test_all_divisors_of_small_sizes(self):
        for size in range(1, 9):
            for divisor in divisors_of(size):
                n = round_of(divisor)
                paper = asked(self, round_paper, divisor)
                self.assertEqual(repr(paper), repr((n, plain_primes(n))))
                self.assertIs(asked(self, lets_round, divisor, paper), True)

    def test_greater_sizes(self):
        dice = chance(91)
        for size in range(9, 17):
            divisor = some_divisor(dice, size)
            paper = round_paper(divisor)
            self.assertEqual(paper[0], round_of(divisor))
            self.assertIs(lets_round(divisor, paper), True)

    def test_a_told_paper_is_the_askers_own(self):
        right = repr(round_paper(FIFTEEN))
        told = round_paper(FIFTEEN)
        told[1].clear()
        told[1].append("other")
        self.assertEqual(repr(round_paper(FIFTEEN)), right)
        self.assertIs(lets_round(FIFTEEN, round_paper(FIFTEEN)), True)

    def test_no_divisor(self):
        for thing in NO_DIVISORS:
            assert_refused(self, NoDivisor, round_paper, thing)


class LetsRound(unittest.TestCase):
    def refuse(self, divisor, paper):
        self.assertIs(asked(self, lets_round, divisor, paper), False, (divisor, paper))

    def test_every_number_with_its_right_primes(self):
        for size in range(1, 7):
            for divisor in divisors_of(size):
                for n in range(1, 2 ** size + 2):
                    told = asked(self, lets_round, divisor, (n, plain_primes(n)))
                    self.assertIs(told, n == round_of(divisor), (divisor, n))

    def test_a_multiple_of_the_round(self):
        for divisor, n in [((1, 0, 1), 4), ((1, 1, 1, 1), 8), ((1, 1, 1, 1, 1), 10), ((1, 1, 1, 1, 1), 15)]:
            self.refuse(divisor, (n, plain_primes(n)))

    def test_a_number_beyond_the_most(self):
        # Both come round, and all their primes would be right; 16 is not below 2 to the power 4.
        self.refuse((1, 0, 0, 0, 1), (16, [(2, 4)]))
        self.refuse(FIFTEEN, (30, [(2, 1), (3, 1), (5, 1)]))
        self.refuse((1, 1), (2, [(2, 1)]))
        self.refuse((1, 1), (0, []))

    def test_no_such_numbers(self):
        for n in [0, -1, -15, 14, 16, 10 ** 29, -(10 ** 29), None, True, False, "15", (15,), [15], {}, {15: 15}, ()]:
            for primes in [[(3, 1), (5, 1)], [], [(2, 1), (7, 1)]]:
                self.refuse(FIFTEEN, (n, primes))

    def test_wrong_primes(self):
        wrong = [
            [], [(3, 1)], [(5, 1)], [(15, 1)], [(5, 1), (3, 1)], [(3, 1), (5, 1), (7, 1)], [(2, 1), (3, 1), (5, 1)],
            [(1, 1), (3, 1), (5, 1)], [(1, 1), (15, 1)], [(3, 2), (5, 1)], [(3, 1), (5, 2)], [(3, 1), (3, 1), (5, 1)],
            [(3, 1), (5, 1), (5, 1)], [(3, 0), (5, 1)], [(3, 1), (5, 0)], [(2, 0), (3, 1), (5, 1)],
            [(3, 1), (5, 1), (7, 0)], [(3, 1), (5, 17)], [(3, 17), (5, 1)], [(3, -1), (5, 1)], [(3, 1), (5, 10 ** 29)],
            [(-5, 1), (-3, 1)], [(-3, 1), (5, 1)], [(0, 1), (3, 1), (5, 1)], [(3, 1), (5, 1), (10 ** 29 + 9, 1)],
            [(10 ** 29 + 9, 1)], [(10 ** 30 - 1, 16)] * 1000, [(3, 1), (5, 1)] * 500, [(3, 10 ** 29)],
            # These are primes, too great to be tried by all smaller numbers.
            [(2 ** 89 - 1, 1)], [(3, 1), (5, 1), (2 ** 61 - 1, 1)], [(2 ** 89 - 1, 10 ** 29)],
        ]
        for primes in wrong:
            self.refuse(FIFTEEN, (15, primes))

    def test_how_often_nought_or_seventeen(self):
        for divisor in DIVISORS:
            n, primes = round_paper(divisor)
            for at in range(len(primes)):
                for often in [0, 17, primes[at][1] + 1, primes[at][1] - 1, -1]:
                    self.refuse(divisor, (n, primes[:at] + [(primes[at][0], often)] + primes[at + 1:]))

    def test_a_prime_at_nought_times_more(self):
        # It changes no product, yet how often is from 1 on.
        for divisor in DIVISORS:
            n, primes = round_paper(divisor)
            for prime in [2, 3, 5, 7, 11, 31]:
                if prime not in [known for known, often in primes]:
                    self.refuse(divisor, (n, sorted(primes + [(prime, 0)])))

    def test_one_for_a_prime(self):
        for divisor in DIVISORS + [(1, 1)]:
            n, primes = round_paper(divisor)
            for often in [0, 1, 16]:
                self.refuse(divisor, (n, [(1, often)] + primes))

    def test_no_prime_though_the_product_is_right(self):
        # 12 = 4 * 3 and 63 = 7 * 9, 4 and 9 no primes; a prime twice over is no rising list.
        self.assertEqual(round_of((1, 1, 0, 1, 0, 1, 1)), 12)
        self.assertIs(lets_round((1, 1, 0, 1, 0, 1, 1), (12, [(2, 2), (3, 1)])), True)
        for primes in [[(3, 1), (4, 1)], [(4, 1), (3, 1)], [(2, 1), (6, 1)], [(12, 1)], [(2, 1), (2, 1), (3, 1)],
                       [(3, 1), (2, 2)], [(2, 2)], [(3, 1)], [(2, 1), (3, 1)]]:
            self.refuse((1, 1, 0, 1, 0, 1, 1), (12, primes))
        self.assertIs(lets_round((1, 0, 0, 0, 0, 1, 1), (63, [(3, 2), (7, 1)])), True)
        for primes in [[(7, 1), (9, 1)], [(3, 1), (21, 1)], [(63, 1)], [(3, 1), (3, 1), (7, 1)], [(7, 1), (3, 2)]]:
            self.refuse((1, 0, 0, 0, 0, 1, 1), (63, primes))

    def test_no_prime_that_would_hide_a_smaller_round(self):
        # By 4 for 2 squared only the power by 4 over 4 would be asked, not that by 2.
        self.refuse((1, 0, 1), (4, [(4, 1)]))
        self.refuse((1, 0, 1), (4, [(2, 2)]))
        self.refuse((1, 1, 1, 1, 1), (10, [(10, 1)]))
        self.refuse((1, 1, 1, 1, 1), (15, [(15, 1)]))
        self.refuse((1, 1, 1), (6, []))

    def test_lists_for_tuples_and_tuples_for_lists(self):
        for divisor in DIVISORS:
            n, primes = round_paper(divisor)
            self.refuse(divisor, [n, primes])
            self.refuse(divisor, (n, tuple(primes)))
            self.refuse(divisor, (n, [list(entry) for entry in primes]))
            self.refuse(divisor, (n, primes[:-1] + [list(primes[-1])]))
            self.refuse(divisor, (n, {prime: often for prime, often in primes}))
            self.refuse(divisor, (n, dict(enumerate(primes))))
            self.refuse(divisor, {0: n, 1: primes})
        self.refuse((1, 1), (1, ()))
        self.refuse((1, 1), [1, []])
        self.refuse((1, 1), (1, {}))
        self.refuse((1, 1), (1, ""))

    def test_truths_for_numbers(self):
        self.assertIs(lets_round((1, 1), (1, [])), True)
        self.refuse((1, 1), (True, []))
        for divisor in DIVISORS:
            n, primes = round_paper(divisor)
            for at, (prime, often) in enumerate(primes):
                if often == 1:
                    self.refuse(divisor, (n, primes[:at] + [(prime, True)] + primes[at + 1:]))
                self.refuse(divisor, (n, [(True, 1)] + primes))
                self.refuse(divisor, (n, primes[:at] + [(True, often)] + primes[at + 1:]))

    def test_more_things_and_fewer(self):
        for divisor in DIVISORS + [(1, 1)]:
            n, primes = round_paper(divisor)
            for paper in [(), (n,), (primes,), (n, primes, n), (n, primes, []), (primes, n), ((n, primes),)]:
                self.refuse(divisor, paper)
            for entry in primes:
                for other in [(), entry[:1], entry + (1,), (entry,), (str(entry[0]), entry[1]), (entry[0], None)]:
                    self.refuse(divisor, (n, [other if known == entry else known for known in primes]))

    def test_things_of_other_kinds(self):
        for thing in NO_ROWS + [(), (0,), (1,), (1, 1), (0, 1, 1), (15, 15), "15 = 3^1 * 5^1"]:
            for divisor in [(1, 1), FIFTEEN]:
                self.refuse(divisor, thing)
                self.refuse(divisor, (thing, [(3, 1), (5, 1)]))
                self.refuse(divisor, (15, [thing]))
                self.refuse(divisor, (15, [(3, 1), thing]))
                self.refuse(divisor, (15, [(3, 1), (5, 1), thing]))
                self.refuse(divisor, (15, [(thing, 1)]))
            self.refuse(FIFTEEN, (15, thing))
            self.refuse(FIFTEEN, (15, [(3, 1), (thing, 1)]))
            if not (type(thing) is int and thing == 1):
                self.refuse(FIFTEEN, (15, [(3, 1), (5, thing)]))
                self.refuse(FIFTEEN, (15, [(3, thing), (5, 1)]))

    def test_whatever_is_let_by_is_the_round(self):
        dice = chance(92)
        for divisor in DIVISORS:
            n = round_of(divisor)
            for step in range(300):
                many = dice.randrange(1, 2 ** (len(divisor) - 1))
                factors = [dice.choice([2, 3, 4, 5, 7, 9, 31, 63]) for k in range(dice.randrange(3))]
                primes = [(factor, dice.randrange(1, 3)) for factor in factors]
                for paper in [(many, primes), (many, plain_primes(many)), (n, primes)]:
                    right = paper == (n, plain_primes(n))
                    self.assertIs(lets_round(divisor, paper), right, paper)

    def test_no_divisor_whatever_the_paper(self):
        for thing in NO_DIVISORS:
            for paper in [(1, []), (3, [(3, 1)]), None, ()]:
                assert_refused(self, NoDivisor, lets_round, thing, paper)
