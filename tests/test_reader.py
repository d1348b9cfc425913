import unittest

from checkrows.errors import NoStyle, NoText
from checkrows.reader import read_round, read_row, read_style
from checkrows.texts import show_round, show_row, show_style
from tests.helper import NO_ROWS, asked, assert_refused, chance, some_row, some_style

# What is no text, whatever it is.
NO_TEXTS = [thing for thing in NO_ROWS if not isinstance(thing, str)] + [(), (0,), (1, 0), ["1"],
                                                                         ("1011", "000", "000")]

# Texts that no reader takes, wherever they stand.
NO_WORDS = [
    "", " ", "\n", "--", "- ", " -", "-\n", "+1", "-1", "-0", "1.", "1,0", "1_0", "_1", "0x1", "0b1", "1e1", "l", "O",
            "a",
    "none", "None", "True", "()", "(1,)", "[1]", "=", "*", "^", "~", "\"1\"", "1 ", " 1", "1\n", "\n1", "1 0 ", "1  0",
]


def spoiled(text):
    """Such texts as are nearly as the one that is right, but otherwise written."""
    wrong = [text + " ", " " + text, text + "\n", "\n" + text, text + " 1", "1 " + text, text + "-", "-" + text]
    wrong += [text + "_", "+" + text, text.replace(" ", "  "), text.replace(" ", "\n"), text.replace(" ", "")]
    for at in range(len(text)):
        for sign in [" ", "\n", "_", "x", ",", "2^", "*", "=", "- "]:
            wrong.append(text[:at] + sign + text[at:])
            wrong.append(text[:at] + sign + text[at + 1:])
    return [other for other in wrong if other != text]


class Reading(unittest.TestCase):
    def reads(self, read, text, right):
        self.assertEqual(repr(asked(self, read, text)), repr(right), text)

    def refuse(self, read, text):
        assert_refused(self, NoText, read, text)


class ReadRow(Reading):
    def test_by_hand(self):
        for text, row in [("-", ()), ("0", (0,)), ("1", (1,)), ("00", (0, 0)), ("1011", (1, 0, 1, 1)), ("01", (0, 1))]:
            self.reads(read_row, text, row)

    def test_to_four_hundred_and_twenty_bits(self):
        dice = chance(230)
        for many in list(range(30)) + [399, 400, 401, 419, 420]:
            row = some_row(dice, many)
            self.reads(read_row, show_row(row), row)
        for many in [421, 422, 1000, 4000]:
            self.refuse(read_row, "0" * many)
            self.refuse(read_row, "1" * many)

    def test_otherwise_written(self):
        for text in NO_WORDS + ["2", "12", "1012", "1 0", "10-", "-10", "1-0", "0 1 1"]:
            self.refuse(read_row, text)
        for text in spoiled("1011") + spoiled("0"):
            self.refuse(read_row, text)

    def test_what_is_no_text(self):
        for thing in NO_TEXTS:
            self.refuse(read_row, thing)


class ReadStyle(Reading):
    def test_by_hand(self):
        self.reads(read_style, "11 0 1", ((1, 1), (0,), (1,)))
        self.reads(read_style, "1011 010 110", ((1, 0, 1, 1), (0, 1, 0), (1, 1, 0)))

    def test_each_size(self):
        dice = chance(231)
        for size in range(1, 17):
            style = some_style(dice, size)
            self.reads(read_style, show_style(style), style)

    def test_otherwise_written(self):
        for text in ["1011 010", "1011", "1011 010 110 000", "1011  010 110", "1011 010  110", "1011 010 110 ", "",
                     " 1011 010 110", "1011 010 110\n", "1011\n010 110", "1011,010,110", "1011 010 11x", "x 010 110",
                     "1011 01_0 110", "1011 012 110", "1011 010 ", "  ", " ", "1011 -- 110", "(1011 010 110)"]:
            self.refuse(read_style, text)
        for word in NO_WORDS:
            for text in [f"{word} 010 110", f"1011 {word} 110", f"1011 010 {word}"]:
                self.refuse(read_style, text)

    def test_what_is_no_text(self):
        for thing in NO_TEXTS:
            self.refuse(read_style, thing)

    def test_three_rows_that_make_no_style(self):
        for text in ["- - -", "1 - -", "0 0 0", "10 0 0", "01 0 0", "11 - -", "11 00 0", "11 0 00", "11 0 -", "11 - 0",
                     "1011 010 1100", "1011 01 110", "010 1011 110", "1" * 18 + " " + "0" * 17 + " " + "0" * 17,
                     "1" * 420 + " " + "0" * 419 + " " + "0" * 419, "11 " + "0" * 420 + " 0"]:
            assert_refused(self, NoStyle, read_style, text)

    def test_no_text_ahead_of_no_style(self):
        for text in ["10 0 x", "0 0  0", "- - - -", "10 0 " + "0" * 421, "1" * 421 + " 0 0", "01 0", "10 0 0 "]:
            self.refuse(read_style, text)


class ReadRound(Reading):
    def test_by_hand(self):
        for text, paper in [("1 =", (1, [])), ("2 = 2^1", (2, [(2, 1)])), ("15 = 3^1 * 5^1", (15, [(3, 1), (5, 1)])),
                            ("63 = 3^2 * 7^1", (63, [(3, 2), (7, 1)])), ("0 =", (0, [])), ("10 =", (10, []))]:
            self.reads(read_round, text, paper)

    def test_the_form_alone(self):
        for text, paper in [("6 = 6^1", (6, [(6, 1)])), ("6 = 3^1 * 2^1", (6, [(3, 1), (2, 1)])),
                            ("0 = 0^0", (0, [(0, 0)])),
                            ("5 = 2^17 * 2^17 * 1^0", (5, [(2, 17), (2, 17), (1, 0)])), ("15 =", (15, []))]:
            self.reads(read_round, text, paper)

    def test_numbers_of_thirty_figures_and_one_more(self):
        great, more = "9" * 30, "1" + "0" * 30
        n = int(great)
        self.reads(read_round, f"{great} =", (n, []))
        self.reads(read_round, f"{great} = {great}^{great} * 2^{great}", (n, [(n, n), (2, n)]))
        for text in [f"{more} =", f"{more} = 2^1", f"4 = {more}^1", f"4 = 2^{more}", f"4 = 2^1 * {more}^1",
                     f"4 = 2^1 * 2^{more}", "9" * 3998 + " ="]:
            self.refuse(read_round, text)

    def test_texts_as_long_as_may_be(self):
        paper = (1, [(1, 1)] * 500)
        self.assertLess(len(show_round(paper)), 4000)
        self.reads(read_round, show_round(paper), paper)

    def test_noughts_ahead(self):
        for text in ["00 =", "01 =", "015 = 3^1 * 5^1", "15 = 03^1 * 5^1", "15 = 3^01 * 5^1", "15 = 3^1 * 05^1",
                     "15 = 3^1 * 5^01", "15 = 3^1 * 5^00"]:
            self.refuse(read_round, text)

    def test_otherwise_written(self):
        for text in ["", "1", "15", "=", " =", "= ", "1=", "1 = ", "1 =\n", " 1 =", "1  =", "1 = =", "1 ==", "-1 =",
                     "+1 =",
                     "1_0 =", "15 = 3^1 *", "15 = 3^1 * ", "15 = * 3^1", "15 = 3^1 5^1", "15 = 3^1 ** 5^1",
                     "15 = 3^1*5^1",
                     "15 = 3^1 * * 5^1", "15 = 3^1 *  5^1", "15 = 3^1  * 5^1", "15 =  3^1 * 5^1", "15  = 3^1 * 5^1",
                     "15 = 3 * 5", "15 = 3^ * 5^1", "15 = ^1 * 5^1", "15 = ^", "15 = 3^1^1", "15 = 3 ^1", "15 = 3^ 1",
                     "15 = 3^-1", "15 = 3^+1", "15 = 3^1_0", "15 = 3^1 * 5^1 ", "15 = 3^1 * 5^1\n", "15 = 3^1\n* 5^1",
                     "15 = 3^1, 5^1", "15 = 5^1 * 3^1 =", "3^1 * 5^1 = 15", "3^1 * 5^1", "15 3^1 * 5^1", "15 : 3^1",
                     "15 = 3*1 ^ 5*1", "15 = none", "15 = -", "(15, [(3, 1), (5, 1)])", "15 = 3^1 = 5^1", "= 3^1",
                     "15 =3^1",
                     "15= 3^1", "15 = 3.0^1"]:
            self.refuse(read_round, text)
        for word in NO_WORDS:
            for text in [f"{word} =", f"{word} = 3^1", f"15 = {word}^1", f"15 = 3^{word}", f"15 = 3^1 * {word}^1",
                         f"15 = 3^1 {word} 5^1", f"15 {word} 3^1"]:
                if text not in ["15 = 3^1", "15 = 3^1 * 5^1"]:
                    self.refuse(read_round, text)

    def test_nearly_right_ones(self):
        for right in ["15 = 3^1 * 5^1", "7 = 7^1", "1 ="]:
            for text in spoiled(right):
                try:
                    told = read_round(text)
                except NoText:
                    continue
                # A sign more may make another right text; then it is just so written.
                self.assertEqual(show_round(told), text)

    def test_what_is_no_text(self):
        for thing in NO_TEXTS + [(15, [(3, 1), (5, 1)]), (1, [])]:
            self.refuse(read_round, thing)

    def test_a_told_list_is_the_askers_own(self):
        read_round("15 = 3^1 * 5^1")[1].clear()
        read_round("1 =")[1].append((2, 1))
        self.reads(read_round, "15 = 3^1 * 5^1", (15, [(3, 1), (5, 1)]))
        self.reads(read_round, "1 =", (1, []))
