import itertools
import unittest

from checkrows.divisors import divisors_of
from checkrows.errors import NoDivisor
from checkrows.halves import halves_paper, lets_halves
from tests.helper import NO_ROWS, asked, assert_refused, chance, rest_number, some_divisor, spelled, worth
from tests.test_divisors import NO_DIVISORS
from tests.test_weights import weights_by_choosings

# The divisor of size 8 with the length 10, where no change of fewer than five places slips.
FAR = (1, 1, 1, 0, 1, 0, 1, 1, 1)
NEAR = (1, 0, 1, 1)


def entries(divisor, length, manys):
    """The rising list of (rest, places) for all sets of so many places, in numbers."""
    listed = []
    for many in manys:
        for places in itertools.combinations(range(length), many):
            number = sum(1 << (length - 1 - place) for place in places)
            listed.append((spelled(len(divisor) - 1, rest_number(number, worth(divisor))), places))
    return sorted(listed)


def whole_lists(divisor, length, most):
    """Both lists as point 21 words them, whether or not rests are alike."""
    half = most // 2
    second = entries(divisor, length, [half + 1]) if most % 2 else []
    return entries(divisor, length, range(half + 1)), second


def none_slips(divisor, length, most):
    return not any(weights_by_choosings(divisor, length)[1:most + 1])


# Papers that are let by, for evens and odds: what is wrong is made of them.
GOOD = [
    ((1, 1), 0, 0), ((1, 1), 5, 0), ((1, 1), 5, 1), (NEAR, 3, 8), (NEAR, 4, 2), (NEAR, 7, 2), (NEAR, 7, 1),
    ((1, 1, 0, 1, 1), 5, 3), (FAR, 10, 4), (FAR, 9, 5), (FAR, 9, 6),
    ((1,) * 9, 9, 7), ((1,) * 9, 8, 8), ((1,) * 9, 9, 8),
]


class HalvesPaper(unittest.TestCase):
    def check(self, divisor, length, most):
        told = asked(self, halves_paper, divisor, length, most)
        if not none_slips(divisor, length, most):
            self.assertIsNone(told, (divisor, length, most))
            return False
        self.assertEqual(repr(told), repr(whole_lists(divisor, length, most)), (divisor, length, most))
        self.assertIs(asked(self, lets_halves, divisor, length, most, told), True)
        return True

    def test_by_hand(self):
        self.assertEqual(halves_paper((1, 1), 0, 0), ([((0,), ())], []))
        self.assertEqual(halves_paper((1, 1), 2, 1), ([((0,), ())], [((1,), (0,)), ((1,), (1,))]))
        self.assertEqual(halves_paper((1, 1), 1, 2), ([((0,), ()), ((1,), (0,))], []))
        self.assertIsNone(halves_paper((1, 1), 2, 2))
        first = [((0, 0), ()), ((0, 1), (2,)), ((1, 0), (1,)), ((1, 1), (0,))]
        self.assertEqual(halves_paper((1, 1, 1), 3, 2), (first, []))
        self.assertIsNone(halves_paper((1, 1, 1), 3, 3))

    def test_small_sizes_lengths_and_every_most(self):
        good = [self.check(divisor, length, most) for size in range(1, 4) for divisor in divisors_of(size)
                for length in range(9) for most in range(9)]
        self.assertIn(True, good)
        self.assertIn(False, good)

    def test_sizes_to_eight(self):
        dice = chance(150)
        for size in range(4, 9):
            for length in [0, 1, size - 1, size, size + 1, size + 2, 11]:
                for most in range(9):
                    if length <= 9 or most <= 5:
                        self.check(some_divisor(dice, size), length, most)

    def test_lengths_to_twenty_four(self):
        dice = chance(151)
        for divisor in [(1, 0, 0, 1, 0, 1), (1, 0, 0, 0, 1, 1, 1, 0, 1), (1, 1, 0, 1, 1, 1, 1), some_divisor(dice, 8)]:
            for length in range(12, 25):
                for most in range(5):
                    self.check(divisor, length, most)

    def test_where_no_change_slips_at_all(self):
        # No more bits than the size: more places than the half there are not, either.
        for size in range(1, 9):
            for length in range(size + 1):
                for most in range(9):
                    self.assertTrue(self.check((1,) * (size + 1), length, most))

    def test_the_good_ones_are_good(self):
        for divisor, length, most in GOOD:
            self.assertTrue(self.check(divisor, length, most), (divisor, length, most))

    def test_a_told_paper_is_the_askers_own(self):
        for divisor, length, most in GOOD:
            told = halves_paper(divisor, length, most)
            right = repr(told)
            told[0].clear()
            told[1].append(7)
            self.assertEqual(repr(halves_paper(divisor, length, most)), right)
            self.assertIs(lets_halves(divisor, length, most, halves_paper(divisor, length, most)), True)

    def test_no_divisor(self):
        for thing in NO_DIVISORS:
            for length, most in [(0, 0), (5, 2), (4, 3)]:
                assert_refused(self, NoDivisor, halves_paper, thing, length, most)


class LetsHalves(unittest.TestCase):
    def refuse(self, divisor, length, most, paper):
        self.assertIs(asked(self, lets_halves, divisor, length, most, paper), False, (divisor, length, most, paper))

    def refuse_with(self, divisor, length, most, at, wrong):
        """With that list in the place of the first, or of the second one."""
        paper = whole_lists(divisor, length, most)
        self.refuse(divisor, length, most, paper[:at] + (wrong,) + paper[at + 1:])

    def each_list(self):
        for divisor, length, most in GOOD:
            for at, listed in enumerate(whole_lists(divisor, length, most)):
                yield divisor, length, most, at, listed

    def each_entry(self):
        for divisor, length, most, at, listed in self.each_list():
            for k in sorted({0, 1, 2, len(listed) // 2, len(listed) - 1} & set(range(len(listed)))):
                yield divisor, length, most, at, listed, k

    def refuse_entry(self, divisor, length, most, at, listed, k, wrong):
        self.refuse_with(divisor, length, most, at, listed[:k] + [wrong] + listed[k + 1:])

    def test_just_where_no_such_change_slips(self):
        for size in range(1, 5):
            for divisor in divisors_of(size):
                for length in range(8):
                    for most in range(9):
                        told = asked(self, lets_halves, divisor, length, most, whole_lists(divisor, length, most))
                        self.assertIs(told, none_slips(divisor, length, most), (divisor, length, most))

    def test_a_rest_twice_alone(self):
        # Complete and rising, but two places have one rest.
        self.refuse((1, 1), 2, 2, ([((0,), ()), ((1,), (0,)), ((1,), (1,))], []))
        # Complete and rising, but two places have the rest of a third one.
        self.refuse((1, 1, 1), 3, 3, whole_lists((1, 1, 1), 3, 3))

    def test_for_another_divisor_length_or_most(self):
        for divisor, length, most in GOOD:
            paper = whole_lists(divisor, length, most)
            for other in [(divisor[:1] + (0,) + divisor[1:], length, most), (divisor, length + 1, most),
                          (divisor, length, most + 1), (divisor, length, most + 2), (divisor, length - 1, most),
                          (divisor, length, most - 1)]:
                if other[1] >= 0 and 0 <= other[2] <= 8:
                    right = none_slips(*other) and whole_lists(*other) == paper
                    self.assertIs(asked(self, lets_halves, *other, paper), right, other)

    def test_an_entry_left_out(self):
        for divisor, length, most, at, listed in self.each_list():
            for k in range(len(listed)):
                self.refuse_with(divisor, length, most, at, listed[:k] + listed[k + 1:])
            if listed:
                self.refuse_with(divisor, length, most, at, [])

    def test_an_entry_twice_or_too_many(self):
        for divisor, length, most, at, listed, k in self.each_entry():
            self.refuse_with(divisor, length, most, at, listed[:k] + [listed[k]] + listed[k:])
        for divisor, length, most, at, listed in self.each_list():
            more = entries(divisor, length, [most // 2 + 2 - at])
            for entry in more[:1] + more[-1:]:
                self.refuse_with(divisor, length, most, at, sorted(listed + [entry]))

    def test_two_exchanged(self):
        for divisor, length, most, at, listed, k in self.each_entry():
            if k > 0:
                swapped = list(listed)
                swapped[k - 1], swapped[k] = swapped[k], swapped[k - 1]
                self.refuse_with(divisor, length, most, at, swapped)
        for divisor, length, most, at, listed in self.each_list():
            if len(listed) > 1:
                self.refuse_with(divisor, length, most, at, listed[::-1])
            by_places = sorted(listed, key=lambda entry: entry[1])
            if by_places != listed:
                self.refuse_with(divisor, length, most, at, by_places)

    def test_both_lists_exchanged(self):
        for divisor, length, most in GOOD:
            first, second = whole_lists(divisor, length, most)
            self.refuse(divisor, length, most, (second, first))
            self.refuse(divisor, length, most, (first, first))

    def test_a_second_list_for_an_even_most(self):
        for divisor, length, most in GOOD:
            if most % 2 == 0:
                first, second = whole_lists(divisor, length, most)
                for more in [entries(divisor, length, [most // 2 + 1]), first, [((0,) * (len(divisor) - 1), ())]]:
                    if more:
                        self.refuse(divisor, length, most, (first, more))

    def test_a_rest_otherwise(self):
        for divisor, length, most, at, listed, k in self.each_entry():
            rest, places = listed[k]
            others = [(1 - rest[0],) + rest[1:], rest[:-1] + (1 - rest[-1],), rest + (0,), (0,) + rest, rest[1:], ()]
            for wrong in others:
                self.refuse_entry(divisor, length, most, at, listed, k, (wrong, places))
                changed = sorted(listed[:k] + [(wrong, places)] + listed[k + 1:])
                self.refuse_with(divisor, length, most, at, changed)

    def test_a_place_otherwise_or_not_rising(self):
        for divisor, length, most, at, listed, k in self.each_entry():
            rest, places = listed[k]
            wrong = [places + (length,), places + (-1,), (-1,) + places, places + places[-1:], places[1:], places[::-1]]
            wrong += [places[:-1] + (length,), places[:-1] + (-1,), (10 ** 29,) + places, places + (10 ** 29,)]
            for other in wrong:
                if other != places:
                    self.refuse_entry(divisor, length, most, at, listed, k, (rest, other))
                    changed = sorted(listed[:k] + [(rest, other)] + listed[k + 1:])
                    self.refuse_with(divisor, length, most, at, changed)

    def test_lists_for_tuples(self):
        for divisor, length, most in GOOD:
            first, second = whole_lists(divisor, length, most)
            for paper in [[first, second], (tuple(first), second), (first, tuple(second)), {0: first, 1: second},
                          (dict(enumerate(first)), second), (first, {}), (first, None), (first,), (first, second, []),
                          ((first, second),), (first + second,)]:
                self.refuse(divisor, length, most, paper)
        for divisor, length, most, at, listed, k in self.each_entry():
            rest, places = listed[k]
            for wrong in [[rest, places], (list(rest), places), (rest, list(places)), (rest,), (rest, places, ()),
                          (places, rest), rest + places, (rest, dict.fromkeys(places, True)), (rest, None)]:
                if wrong != listed[k]:
                    self.refuse_entry(divisor, length, most, at, listed, k, wrong)

    def test_truths_for_numbers(self):
        for divisor, length, most, at, listed, k in self.each_entry():
            rest, places = listed[k]
            for j, bit in enumerate(rest):
                wrong = rest[:j] + (bit == 1,) + rest[j + 1:]
                self.refuse_entry(divisor, length, most, at, listed, k, (wrong, places))
            for j, place in enumerate(places):
                if place in (0, 1):
                    wrong = places[:j] + (place == 1,) + places[j + 1:]
                    self.refuse_entry(divisor, length, most, at, listed, k, (rest, wrong))

    def test_things_of_other_kinds(self):
        for thing in NO_ROWS + [(), (0,), (1, 1), (0, 0, 0)]:
            for divisor, length, most in [((1, 1), 0, 0), (NEAR, 7, 2), ((1, 1, 0, 1, 1), 5, 3)]:
                first, second = whole_lists(divisor, length, most)
                self.refuse(divisor, length, most, thing)
                self.refuse(divisor, length, most, (thing, second))
                if thing != second:
                    self.refuse(divisor, length, most, (first, thing))
                rest, places = first[-1]
                wrongs = [thing, (rest, thing), (thing, places), (rest, places + (thing,)), (rest + (thing,), places)]
                for wrong in wrongs:
                    if wrong != first[-1]:
                        self.refuse(divisor, length, most, (first[:-1] + [wrong], second))
                    self.refuse(divisor, length, most, (first, second + [wrong]))

    def test_far_papers_for_which_there_are_too_many_sets(self):
        first, second = whole_lists(FAR, 24, 2)
        for most in range(3, 9):
            self.refuse(FAR, 24, most, (first, second))
            self.refuse(FAR, 24, most, ([first[0]] * 1000, []))

    def test_no_divisor_whatever_the_paper(self):
        for thing in NO_DIVISORS:
            for paper in [([((0,), ())], []), None, ()]:
                assert_refused(self, NoDivisor, lets_halves, thing, 3, 0, paper)
