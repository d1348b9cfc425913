import copy
import functools
import unittest

from checkrows.bestpapers import best_paper, lets_best
from checkrows.divisors import divisors_of
from tests.helper import NO_ROWS, asked, plain_row, rest_number, spelled, worth
from tests.test_best import TAKEN, all_of_size, best_by_all, least_number, multiples
from tests.test_divisors import NO_DIVISORS
from tests.test_halves import whole_lists

# Where wrong papers are made: evens and odds, one best divisor and several.
SPOTS = [(1, 2), (1, 5), (2, 3), (2, 5), (3, 4), (3, 7), (3, 8), (4, 5), (4, 7), (4, 12), (5, 6), (5, 9)]


def changes(divisor, length, most):
    """All changes of the length that slip, of at most so many 1s."""
    slipping = [number for number in multiples(divisor, length)[1:] if bin(number).count("1") <= most]
    return [spelled(length, number) for number in sorted(slipping)]


def right_paper(size, length, at=0):
    """A right paper, the test's own, of the best divisor at that place."""
    return copy.deepcopy(reckoned_paper(size, length, at))


@functools.cache
def reckoned_paper(size, length, at):
    """With other changes than the least ones where there are."""
    number, divisors = best_by_all(size, length)
    slipping = [(divisor, changes(divisor, length, number)[-1]) for divisor in all_of_size(size)]
    return number, divisors[at], whole_lists(divisors[at], length, number - 1), slipping


class BestPaper(unittest.TestCase):
    def test_by_hand(self):
        halves = ([((0,), ())], [((1,), (0,)), ((1,), (1,))])
        self.assertEqual(best_paper(1, 2), (2, (1, 1), halves, [((1, 1), (1, 1))]))
        number, divisor, halves, slipping = best_paper(2, 3)
        self.assertEqual((number, divisor), (3, (1, 1, 1)))
        first = [((0, 0), ()), ((0, 1), (2,)), ((1, 0), (1,)), ((1, 1), (0,))]
        self.assertEqual(halves, (first, []))
        self.assertEqual(slipping, [((1, 0, 1), (1, 0, 1)), ((1, 1, 1), (1, 1, 1))])

    def test_each_size_and_length(self):
        for size, length in TAKEN:
            told = asked(self, best_paper, size, length)
            number, divisor, halves, slipping = told
            right, divisors = best_by_all(size, length)
            self.assertEqual(repr(number), repr(right))
            self.assertIn(divisor, divisors)
            self.assertTrue(plain_row(divisor))
            self.assertEqual(repr(halves), repr(whole_lists(divisor, length, number - 1)))
            self.assertIs(type(slipping), list)
            self.assertEqual([entry[0] for entry in slipping], all_of_size(size))
            for entry in slipping:
                self.assertIs(type(entry), tuple)
                self.assertIn(entry[1], changes(entry[0], length, number))
                self.assertTrue(plain_row(entry[1]))
            self.assertIs(asked(self, lets_best, size, length, told), True)

    def test_a_told_paper_is_the_askers_own(self):
        for size, length in SPOTS:
            told = best_paper(size, length)
            right = repr(told)
            told[2][0].clear()
            told[2][1].append(7)
            told[3].clear()
            self.assertEqual(repr(best_paper(size, length)), right)
            self.assertIs(lets_best(size, length, best_paper(size, length)), True)

    def test_somewhat_beyond(self):
        for size, length in [(6, 7), (5, 17), (6, 17)]:
            self.assertIs(lets_best(size, length, asked(self, best_paper, size, length)), True)
        for size in range(6):
            for length in range(size + 1):
                self.assertIsNone(best_paper(size, length))


class LetsBest(unittest.TestCase):
    def refuse(self, size, length, paper):
        self.assertIs(asked(self, lets_best, size, length, paper), False, (size, length, paper))

    def refuse_with(self, size, length, at, wrong):
        """With that in the place of one part of a right paper."""
        paper = right_paper(size, length)
        self.refuse(size, length, paper[:at] + (wrong,) + paper[at + 1:])

    def refuse_entry(self, size, length, k, wrong):
        slipping = right_paper(size, length)[3]
        self.refuse_with(size, length, 3, slipping[:k] + [wrong] + slipping[k + 1:])

    def each_entry(self):
        for size, length in SPOTS:
            for k, entry in enumerate(right_paper(size, length)[3]):
                yield size, length, k, entry

    def test_right_ones_of_each_best_divisor(self):
        for size, length in TAKEN:
            for at in range(len(best_by_all(size, length)[1])):
                paper = right_paper(size, length, at)
                self.assertIs(asked(self, lets_best, size, length, paper), True, (size, length, paper))

    def test_each_change_of_at_most_the_number(self):
        for size, length in [(1, 3), (2, 5), (3, 7), (3, 8), (4, 7)]:
            number, divisor, halves, slipping = right_paper(size, length)
            for k, (other, change) in enumerate(slipping):
                for change in changes(other, length, number):
                    listed = slipping[:k] + [(other, change)] + slipping[k + 1:]
                    self.assertIs(asked(self, lets_best, size, length, (number, divisor, halves, listed)), True)

    def test_another_number(self):
        for size, length in SPOTS:
            right = right_paper(size, length)[0]
            for number in list(range(-1, size + 4)) + [-right, 10 ** 29, -(10 ** 29)]:
                if number != right:
                    self.refuse_with(size, length, 0, number)

    def test_another_number_with_the_halves_for_it(self):
        for size, length in SPOTS:
            right, divisor, halves, slipping = right_paper(size, length)
            for number in range(1, size + 3):
                if number != right:
                    lists = whole_lists(divisor, length, number - 1)
                    self.refuse(size, length, (number, divisor, lists, slipping))

    def test_a_number_too_small_with_all_else_as_right_as_can_be(self):
        # The halves are let by for less, too: only a divisor without such a change to show tells.
        for size, length in SPOTS:
            right, divisor, halves, slipping = right_paper(size, length)
            if right > 2:
                lists = whole_lists(divisor, length, right - 2)
                few = [(other, changes(other, length, right)[0]) for other, change in slipping]
                self.refuse(size, length, (right - 1, divisor, lists, few))
                self.refuse(size, length, (right - 1, divisor, lists, [e for e in few if sum(e[1]) < right]))

    def test_a_number_of_one_or_beyond_the_size_and_one(self):
        # A single 1 never slips; number 1 would need most 0, whose halves are let by.
        for size, length in SPOTS:
            number, divisor, halves, slipping = right_paper(size, length)
            self.refuse(size, length, (1, divisor, whole_lists(divisor, length, 0), slipping))
        # Where no change slips the halves are let by for any number.
        self.refuse(1, 1, (3, (1, 1), whole_lists((1, 1), 1, 2), [((1, 1), (1,))]))
        self.refuse(1, 1, (2, (1, 1), whole_lists((1, 1), 1, 1), [((1, 1), (1,))]))
        self.refuse(1, 1, (2, (1, 1), whole_lists((1, 1), 1, 1), []))

    def test_a_divisor_that_is_not_the_best(self):
        seen = 0
        for size, length in TAKEN:
            number, divisor, halves, slipping = right_paper(size, length)
            for other in all_of_size(size):
                if least_number(other, length) < number:
                    seen += 1
                    self.refuse(size, length, (number, other, halves, slipping))
                    self.refuse(size, length, (number, other, whole_lists(other, length, number - 1), slipping))
                    least = least_number(other, length)
                    lists = whole_lists(other, length, least - 1)
                    self.refuse(size, length, (least, other, lists, slipping))
        self.assertGreater(seen, 100)

    def test_a_divisor_of_another_size(self):
        for size, length in SPOTS:
            number, divisor, halves, slipping = right_paper(size, length)
            for other in all_of_size(size + 1) + (all_of_size(size - 1) if size > 1 else []):
                self.refuse(size, length, (number, other, halves, slipping))
                self.refuse(size, length, (number, other, whole_lists(other, length, number - 1), slipping))

    def test_a_better_divisor_of_another_size_changes_nothing(self):
        # Right for the size 4 in all, asked for the size 3.
        self.refuse(3, 7, right_paper(4, 7))
        self.refuse(4, 7, right_paper(3, 7))
        self.refuse(4, 7, right_paper(4, 6))
        self.refuse(4, 6, right_paper(4, 7))

    def test_halves_for_another_number_length_or_divisor(self):
        for size, length in SPOTS:
            number, divisor, halves, slipping = right_paper(size, length)
            for lists in [whole_lists(divisor, length, number), whole_lists(divisor, length, number - 2),
                          whole_lists(divisor, length + 1, number - 1), whole_lists(divisor, length - 1, number - 1)]:
                self.assertNotEqual(lists, halves)
                self.refuse_with(size, length, 2, lists)
            for other in all_of_size(size):
                lists = whole_lists(other, length, number - 1)
                if lists != halves:
                    self.refuse_with(size, length, 2, lists)

    def test_halves_with_a_row_left_out_twice_or_exchanged(self):
        for size, length in SPOTS:
            first, second = right_paper(size, length)[2]
            for k in range(len(first)):
                self.refuse_with(size, length, 2, (first[:k] + first[k + 1:], second))
                self.refuse_with(size, length, 2, (first[:k + 1] + first[k:], second))
            for k in range(len(second)):
                self.refuse_with(size, length, 2, (first, second[:k] + second[k + 1:]))
                self.refuse_with(size, length, 2, (first, second[:k + 1] + second[k:]))
            if len(first) > 1:
                self.refuse_with(size, length, 2, (first[::-1], second))
            self.refuse_with(size, length, 2, [first, second])
            self.refuse_with(size, length, 2, (tuple(first), second))
            self.refuse_with(size, length, 2, (first, tuple(second)))

    def test_a_slipping_row_left_out_or_twice(self):
        for size, length, k, entry in self.each_entry():
            slipping = right_paper(size, length)[3]
            self.refuse_with(size, length, 3, slipping[:k] + slipping[k + 1:])
            self.refuse_with(size, length, 3, slipping[:k + 1] + slipping[k:])
            self.refuse_with(size, length, 3, slipping[:k] + slipping[k + 1:] + slipping[-1:] * 2)
            for j, other in enumerate(slipping):
                if j != k:
                    self.refuse_entry(size, length, k, other)
        self.refuse_with(3, 7, 3, [])

    def test_slipping_rows_out_of_their_order(self):
        for size, length, k, entry in self.each_entry():
            if k > 0:
                slipping = right_paper(size, length)[3]
                slipping[k - 1], slipping[k] = slipping[k], slipping[k - 1]
                self.refuse_with(size, length, 3, slipping)
        for size, length in SPOTS:
            slipping = right_paper(size, length)[3]
            if len(slipping) > 1:
                self.refuse_with(size, length, 3, slipping[::-1])

    def test_a_change_that_does_not_slip(self):
        for size, length, k, (divisor, change) in self.each_entry():
            for place in range(length):
                other = change[:place] + (1 - change[place],) + change[place + 1:]
                self.refuse_entry(size, length, k, (divisor, other))
            self.refuse_entry(size, length, k, (divisor, (0,) * (length - 1) + (1,)))
            self.refuse_entry(size, length, k, (divisor, (1,) + (0,) * (length - 1)))

    def test_a_change_with_too_many_ones(self):
        seen = 0
        for size, length, k, (divisor, change) in self.each_entry():
            number = right_paper(size, length)[0]
            for many in multiples(divisor, length):
                if bin(many).count("1") > number:
                    seen += 1
                    self.assertEqual(rest_number(many, worth(divisor)), 0)
                    self.refuse_entry(size, length, k, (divisor, spelled(length, many)))
        self.assertGreater(seen, 100)

    def test_a_change_of_another_length_or_of_noughts(self):
        for size, length, k, (divisor, change) in self.each_entry():
            for other in [(0,) + change, change + (0,), change[1:], change[:-1], (), (0,) * length, (0,) * (length + 1),
                          (0,) * (420 - length) + change, (0,) * (421 - length) + change]:
                self.refuse_entry(size, length, k, (divisor, other))

    def test_another_divisor_in_a_slipping_row(self):
        for size, length, k, (divisor, change) in self.each_entry():
            others = [(0,) + divisor, divisor + (0,), divisor[:-1], divisor[1:], ()] + all_of_size(size + 1)
            for other in others + [other for other in all_of_size(size) if other != divisor]:
                self.refuse_entry(size, length, k, (other, change))

    def test_lists_for_tuples(self):
        for size, length in SPOTS:
            paper = right_paper(size, length)
            number, divisor, halves, slipping = paper
            for wrong in [list(paper), paper[:3], paper[1:], paper + (None,), (paper,), dict(enumerate(paper)), (),
                          (number, list(divisor), halves, slipping), (number, divisor, halves, tuple(slipping)),
                          (number, divisor, halves, dict(slipping)), (divisor, number, halves, slipping),
                          (number, divisor, slipping, halves), (number, divisor, halves, [slipping])]:
                self.refuse(size, length, wrong)
        for size, length, k, (divisor, change) in self.each_entry():
            for wrong in [[divisor, change], (list(divisor), change), (divisor, list(change)), (divisor,), (change,),
                          (divisor, change, ()), divisor + change, {divisor: change}, ((divisor, change),)]:
                self.refuse_entry(size, length, k, wrong)
            if divisor != change:
                self.refuse_entry(size, length, k, (change, divisor))

    def test_truths_for_numbers_and_bits(self):
        for truth in [True, False]:
            for size, length in SPOTS:
                self.refuse_with(size, length, 0, truth)
                divisor = right_paper(size, length)[1]
                for at, bit in enumerate(divisor):
                    self.refuse_with(size, length, 1, divisor[:at] + (bit == 1,) + divisor[at + 1:])
        for size, length, k, (divisor, change) in self.each_entry():
            for at, bit in enumerate(divisor):
                self.refuse_entry(size, length, k, (divisor[:at] + (bit == 1,) + divisor[at + 1:], change))
            for at, bit in enumerate(change):
                self.refuse_entry(size, length, k, (divisor, change[:at] + (bit == 1,) + change[at + 1:]))
        for size, length in SPOTS:
            first, second = right_paper(size, length)[2]
            for lists in [first, second]:
                for k, (rest, places) in enumerate(lists):
                    wrong = lists[:k] + [((rest[0] == 1,) + rest[1:], places)] + lists[k + 1:]
                    self.refuse_with(size, length, 2, (wrong, second) if lists is first else (first, wrong))

    def test_things_of_other_kinds(self):
        for size, length in [(1, 2), (3, 7)]:
            for thing in NO_ROWS + [(), (0,), (0, 0, 0, 0)]:
                self.refuse(size, length, thing)
                self.refuse_with(size, length, 2, thing)
                self.refuse_with(size, length, 3, thing)
                if thing != right_paper(size, length)[0]:
                    self.refuse_with(size, length, 0, thing)
                for k, (divisor, change) in enumerate(right_paper(size, length)[3]):
                    for wrong in [thing, (thing, change), (divisor, thing), (thing, thing), (divisor, change, thing)]:
                        self.refuse_entry(size, length, k, wrong)
            for thing in NO_DIVISORS:
                self.refuse_with(size, length, 1, thing)

    def test_beyond_the_lengths_nothing_is_let_by(self):
        for size in range(1, 4):
            for length in range(size + 1):
                for divisor in divisors_of(size):
                    for number in range(size + 3):
                        halves = whole_lists(divisor, length, max(0, number - 1))
                        for change in [(0,) * length, (1,) * length]:
                            slipping = [(other, change) for other in divisors_of(size)]
                            self.refuse(size, length, (number, divisor, halves, slipping))
