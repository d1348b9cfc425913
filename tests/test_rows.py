import unittest

from checkrows.errors import NoNumber
from checkrows.rows import is_row, number_of, row_of, short_row
from tests.helper import NO_ROWS, assert_refused, chance, plain_row, some_row, spelled, worth

# No number, or none that a row of four bits has.
NO_NUMBERS = [
    None, True, False, "", "1", "3", (), (1,), (0, 1), [], [1], {}, {1: 1}, ((1,),), [[[]]], {"a": {"b": ()}},
]


class IsRow(unittest.TestCase):
    def test_rows_up_to_the_most_bits(self):
        for row in [(), (0,), (1,), (0, 0), (1, 0, 1), (0,) * 400, (1,) * 401, (0,) * 420, (1,) * 420]:
            self.assertIs(is_row(row), True, row)

    def test_one_bit_too_many(self):
        self.assertIs(is_row((0,) * 421), False)
        self.assertIs(is_row((1,) * 421), False)

    def test_of_whatever_it_is(self):
        for thing in NO_ROWS:
            self.assertIs(is_row(thing), False, thing)

    def test_one_thing_that_is_no_bit_at_each_place(self):
        for wrong in [True, False, None, 2, -1, "0", (), [0], {}]:
            for at in range(5):
                row = (0, 1, 1, 0, 1)
                self.assertIs(is_row(row[:at] + (wrong,) + row[at + 1:]), False, (at, wrong))

    def test_what_is_asked_of_is_as_it_was(self):
        thing = [1, [0, {"a": [1]}]]
        is_row(thing)
        is_row((thing,))
        self.assertEqual(thing, [1, [0, {"a": [1]}]])


class RowOf(unittest.TestCase):
    def test_by_hand(self):
        self.assertEqual(row_of(0, 0), ())
        self.assertEqual(row_of(1, 0), (0,))
        self.assertEqual(row_of(1, 1), (1,))
        self.assertEqual(row_of(4, 2), (0, 0, 1, 0))
        self.assertEqual(row_of(4, 13), (1, 1, 0, 1))
        self.assertEqual(row_of(420, 1), (0,) * 419 + (1,))

    def test_all_short_rows_there_and_back(self):
        for many in range(8):
            for number in range(2 ** many):
                row = row_of(many, number)
                self.assertTrue(plain_row(row))
                self.assertEqual(row, spelled(many, number))
                self.assertEqual(number_of(row), number)

    def test_long_rows_there_and_back(self):
        dice = chance(4)
        for many in [9, 31, 64, 99, 400, 419, 420]:
            for row in [some_row(dice, many), (0,) * many, (1,) * many, (1,) + (0,) * (many - 1)]:
                self.assertEqual(number_of(row), worth(row))
                self.assertEqual(row_of(many, number_of(row)), row)

    def test_no_such_many(self):
        for many in [-1, 421, 422, 1000, 10 ** 29, -(10 ** 29)] + NO_NUMBERS:
            for number in [0, 1]:
                assert_refused(self, NoNumber, row_of, many, number)

    def test_no_such_number(self):
        for number in [16, 17, -1, -16, 10 ** 29, -(10 ** 29)] + NO_NUMBERS:
            assert_refused(self, NoNumber, row_of, 4, number)
        for many in [0, 1, 2, 30, 400, 420]:
            assert_refused(self, NoNumber, row_of, many, 2 ** many)
            assert_refused(self, NoNumber, row_of, many, -1)
            self.assertEqual(row_of(many, 2 ** many - 1), (1,) * many)

    def test_both_wrong(self):
        for thing in NO_NUMBERS:
            assert_refused(self, NoNumber, row_of, thing, thing)


class NumberOf(unittest.TestCase):
    def test_by_hand(self):
        told = [((), 0), ((0,), 0), ((1,), 1), ((0, 1, 1, 0), 6), ((1, 0, 0, 0, 1), 17)]
        for row, number in told:
            self.assertEqual(number_of(row), number)
            self.assertIs(type(number_of(row)), int)


class ShortRow(unittest.TestCase):
    def test_by_hand(self):
        told = [
            ((), ()), ((0,), ()), ((0, 0, 0), ()), ((0,) * 420, ()),
            ((1,), (1,)), ((0, 1), (1,)), ((0, 0, 1, 0), (1, 0)), ((1, 0, 0), (1, 0, 0)),
            ((0,) * 419 + (1,), (1,)), ((0, 1, 0, 1, 0), (1, 0, 1, 0)),
        ]
        for row, short in told:
            self.assertEqual(short_row(row), short)
            self.assertTrue(plain_row(short_row(row)))

    def test_has_the_same_number_and_no_nought_ahead(self):
        dice = chance(5)
        for many in range(60):
            row = some_row(dice, many)
            self.assertEqual(number_of(short_row(row)), number_of(row))
            self.assertNotEqual(short_row(row)[:1], (0,))
