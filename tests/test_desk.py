import unittest

from checkrows.best import best_of
from checkrows.bursts import many_bursts, slipping_bursts
from checkrows.changes import slips
from checkrows.checks import check_of, checked_row
from checkrows.desk import ANSWERS, KINDS, Desk
from checkrows.errors import NoBack, NoFit, NoNumber, NoPlace, NoStyle, NoText, NoWord
from checkrows.keeper import Keeper
from checkrows.leasts import least_of
from checkrows.pairs import odd_told, pair_slips
from checkrows.places import found_places
from checkrows.roundpapers import round_paper
from checkrows.rows import row_of
from checkrows.texts import show_places, show_round, show_row, show_style
from checkrows.weights import weights_of
from tests.helper import asked, assert_refused, chance, exchanged, some_row, some_style
from tests.test_reader import NO_TEXTS, NO_WORDS

STYLE = ((1, 0, 1, 1), (0, 1, 0), (1, 1, 0))
ROW = (1, 0, 1, 1, 0)
TEXT = "1011 010 110 10110"
FIFTEEN = ((1, 0, 0, 1, 1), (0, 0, 0, 0), (0, 0, 0, 0))

# Each row of words that the interface lists, by its first word: the kinds of its other words.
LISTED = {
    "put": ["ROW"], "off": ["N"], "change": ["N", "ROW"], "back": [], "again": [], "row": [], "check": [], "many": [],
    "whole": ["ROW"], "round": [], "slips": ["ROW"], "places": ["ROW"], "weights": ["N"], "least": ["N"],
    "bursts": ["N", "N"], "pair": ["N"], "odd": [], "best": ["N"],
}
# Rightly written words of each kind, that all rows of words take at a desk of size 3 with five bits.
RIGHT = {"ROW": "1", "N": "4"}
NO_NUMBERS = [word for word in NO_WORDS if word] + ["", "-", "00", "01", "007", "4-", "4x", "1" + "0" * 30, "9" * 31,
                                                    "9" * 400]
NO_ROW_WORDS = [word for word in NO_WORDS if word] + ["", "2", "4", "102", "-1", "1-", "0" * 421, "1" * 1000]


def desk_of(style, row):
    return Desk(f"{show_style(style)} {show_row(row)}")


def spoken(first, kinds):
    return " ".join([first] + [RIGHT[kind] for kind in kinds])


class Said(unittest.TestCase):
    """What the tests of a desk share."""

    def answer(self, desk, row, right):
        told = asked(self, desk.say, row)
        self.assertIs(type(told), str)
        self.assertEqual(told, right, row)

    def agree(self, desk, style, row):
        self.answer(desk, "row", show_row(row))
        self.answer(desk, "check", show_row(check_of(style, row)))
        self.answer(desk, "many", str(len(row)))

    def refused(self, desk, error, row):
        """Refused, with what the desk tells as it was."""
        before = [desk.say(word) for word in ["row", "check", "many"]]
        assert_refused(self, error, desk.say, row)
        self.assertEqual([desk.say(word) for word in ["row", "check", "many"]], before)


class Making(Said):
    def test_each_size_and_length(self):
        dice = chance(270)
        for size in range(1, 17):
            for many in [0, 1, 30, 400]:
                style, row = some_style(dice, size), some_row(dice, many)
                self.agree(desk_of(style, row), style, row)
        self.agree(Desk(TEXT), STYLE, ROW)
        self.agree(Desk("11 0 1 -"), ((1, 1), (0,), (1,)), ())

    def test_no_text(self):
        for thing in NO_TEXTS + [STYLE + (ROW,), (STYLE, ROW), [TEXT]]:
            assert_refused(self, NoText, Desk, thing)
        for text in ["", " ", "   ", "1011 010 110", "1011 010 110 ", "1011 010 110 1 1", " " + TEXT, TEXT + " ",
                     TEXT + "\n",
                     "1011  010 110 1", "1011 010  110 1", "1011 010 110  1", "1011\n010 110 1", "1011,010,110,1",
                     "1011",
                     "put 1", "row", "1011 010 110 2", "1011 010 110 --", "1011 010 110 none", "1011 010 110 1 -",
                     "1011 010 110 " + "1" * 421, "1" * 421 + " 010 110 1"]:
            assert_refused(self, NoText, Desk, text)
        for word in NO_WORDS:
            for text in [f"{word} 010 110 1", f"1011 {word} 110 1", f"1011 010 {word} 1", f"1011 010 110 {word}"]:
                assert_refused(self, NoText, Desk, text)

    def test_no_style(self):
        for text in ["- - - -", "1 - - 1", "10 0 0 1", "01 0 0 1", "11 00 0 1", "11 0 - 1", "11 - 0 1",
                     "1011 010 1100 1",
                     "1" * 18 + " " + "0" * 17 + " " + "0" * 17 + " 1", "1010 010 110 -", "11 0 1111 0"]:
            assert_refused(self, NoStyle, Desk, text)

    def test_more_than_four_hundred_bits(self):
        for many in [401, 402, 419, 420]:
            assert_refused(self, NoFit, Desk, "1011 010 110 " + "1" * many)

    def test_no_text_ahead_of_no_style_ahead_of_no_fit(self):
        for text in ["10 0 0 2", "10 0  0 1", "x 0 0 " + "1" * 401, "10 0 0 " + "1" * 421, "10 0 0", "10 0 0 1 "]:
            assert_refused(self, NoText, Desk, text)
        for text in ["10 0 0 " + "1" * 401, "11 00 0 " + "0" * 420]:
            assert_refused(self, NoStyle, Desk, text)


class Words(Said):
    def test_the_listed_rows_of_words_and_no_others(self):
        self.assertEqual({first: list(kinds) for first, kinds in KINDS.items()}, LISTED)
        self.assertEqual(set(ANSWERS), set(LISTED))
        for first, kinds in LISTED.items():
            desk = Desk(TEXT)
            desk.say("put 1")
            desk.say("put 1")
            desk.say("back")
            self.assertIs(type(desk.say(spoken(first, kinds))), str, first)

    def test_too_many_and_too_few_words(self):
        desk = Desk(TEXT)
        for first, kinds in LISTED.items():
            right = spoken(first, kinds)
            wrong = [f"{right} 1", f"{right} -", f"{right} 1 1", f"{right} row", f"{right} ", f" {right}", f"{right}  "]
            wrong += [right.replace(" ", "  ", 1), f"{right} 0x"] if kinds else []
            wrong += [spoken(first, kinds[1:]), spoken(first, kinds[1:]) + "  1"] if kinds else []
            wrong += [f"{first} "] if len(kinds) != 1 else [first]
            for row in wrong:
                self.refused(desk, NoWord, row)
        self.agree(desk, STYLE, ROW)

    def test_unknown_first_words(self):
        desk = Desk(TEXT)
        for row in ["", " ", "  ", "\n", "-", "1", "PUT 1", "Put 1", "ROW", "put", "put\n1", "row\n", "\nrow", "put,1",
                    "put=1",
                    "rows", "ro", "ask", "undo", "redo", "again back", "back again", "none", "yes",
                    "1011 010 110 10110",
                    "whole", "checks", "N", "put ROW x", "sheet 1", "span 3", "turn 1", "back()", "keeper", "say row"]:
            self.refused(desk, NoWord, row)
        # NoWord goes first, whatever the other words are.
        for row in ["putt x", "move 01 2", "rows -1", " put 2", "put 2 2", "off 01 1", "change x", "bursts 01",
                    "best 3 x"]:
            self.refused(desk, NoWord, row)

    def test_what_is_no_text(self):
        desk = Desk(TEXT)
        for thing in NO_TEXTS + [["row"], ("row",), {"row": 1}]:
            self.refused(desk, NoWord, thing)

    def test_words_not_written_as_their_kind(self):
        desk = Desk(TEXT)
        wrongs = {"N": NO_NUMBERS, "ROW": NO_ROW_WORDS}
        for first, kinds in LISTED.items():
            for at, kind in enumerate(kinds):
                for wrong in wrongs[kind]:
                    words = [RIGHT[other] for other in kinds]
                    words[at] = wrong
                    # A blank within makes more words of it.
                    self.refused(desk, NoWord if " " in wrong else NoText, " ".join([first] + words))
        self.agree(desk, STYLE, ROW)

    def test_two_such_at_once_and_an_empty_word(self):
        desk = Desk(TEXT)
        for row in ["change 01 2", "change x x", "change -1 -1", "change  1", "change 4 ", "change  ", "bursts  4",
                    "bursts 4 ",
                    "bursts 01 01", "bursts x y", "put ", "off ", "whole ", "slips ", "places ", "weights ", "least ",
                    "pair ",
                    "best "]:
            self.refused(desk, NoText, row)

    def test_no_text_ahead_of_no_number_and_of_the_stages(self):
        desk = Desk(TEXT)
        for row in ["bursts 401 01", "bursts 401 x", "bursts 01 0", "weights 025", "least 025", "best 017", "pair 00",
                    "change 9 2", "change 09 1", "off 09", "put " + "1" * 421]:
            self.refused(desk, NoText, row)
        far = desk_of(((1,) * 10, (0,) * 9, (0,) * 9), ())
        for row in ["weights x", "least 01", "best -"]:
            self.refused(far, NoText, row)


class KeeperWords(Said):
    def test_by_hand(self):
        desk = Desk("1011 111 000 10")
        for row, right in [("row", "10"), ("many", "2"), ("check", "111"), ("put 01", "010"), ("row", "1001"),
                           ("back", "111"),
                           ("again", "010"), ("whole 010", "yes"), ("whole 011", "no"), ("whole -", "no"),
                           ("off 4", "111"),
                           ("row", "-"), ("many", "0"), ("put -", "111"), ("back", "111"), ("back", "010"),
                           ("row", "1001")]:
            self.answer(desk, row, right)

    def test_as_a_keeper_does(self):
        for seed in range(271, 275):
            dice = chance(seed)
            style, row = some_style(dice, dice.randrange(1, 17)), some_row(dice, dice.choice([0, 6, 396]))
            desk, keeper = desk_of(style, row), Keeper(style, row)
            for step in range(120):
                kind = dice.choice(["put", "off", "change", "back", "back", "again", "whole"])
                bits, number = some_row(dice, dice.randrange(6)), dice.choice([0, 1, 2, 3, 5, 10 ** 29])
                handed = {"put": [bits], "off": [number], "change": [number, bits], "whole": [bits]}.get(kind, [])
                words = [str(part) if isinstance(part, int) else show_row(part) for part in handed]
                spoken_row = " ".join([kind] + words)
                try:
                    told = getattr(keeper, kind)(*handed)
                except (NoFit, NoNumber, NoPlace, NoBack) as error:
                    self.refused(desk, type(error), spoken_row)
                    continue
                right = {True: "yes", False: "no"}[told] if kind == "whole" else show_row(told)
                self.answer(desk, spoken_row, right)
                self.agree(desk, style, keeper.row())

    def test_put(self):
        desk = desk_of(STYLE, (1,) * 399)
        self.refused(desk, NoFit, "put 10")
        self.refused(desk, NoFit, "put " + "1" * 420)
        self.answer(desk, "put 0", show_row(check_of(STYLE, (1,) * 399 + (0,))))
        self.refused(desk, NoFit, "put 0")
        self.answer(desk, "put -", show_row(check_of(STYLE, (1,) * 399 + (0,))))

    def test_off(self):
        desk = Desk(TEXT)
        for number in [6, 7, 400, 10 ** 29, 10 ** 30 - 1]:
            self.refused(desk, NoNumber, f"off {number}")
        self.answer(desk, "off 0", show_row(check_of(STYLE, ROW)))
        self.answer(desk, "off 2", show_row(check_of(STYLE, ROW[:3])))
        self.answer(desk, "off 3", show_row(check_of(STYLE, ())))
        self.refused(desk, NoNumber, "off 1")

    def test_change(self):
        desk = Desk(TEXT)
        for row in ["change 5 1", "change 4 11", "change 6 -", "change 0 111111", "change " + "9" * 30 + " -"]:
            self.refused(desk, NoPlace, row)
        self.answer(desk, "change 5 -", show_row(check_of(STYLE, ROW)))
        self.answer(desk, "change 1 10", show_row(check_of(STYLE, (1, 1, 0, 1, 0))))
        self.agree(desk, STYLE, (1, 1, 0, 1, 0))

    def test_back_and_again(self):
        desk = Desk(TEXT)
        self.refused(desk, NoBack, "back")
        self.refused(desk, NoBack, "again")
        desk.say("put 1")
        for row, error in [("put 2", NoText), ("off 9", NoNumber), ("change 9 -", NoPlace), ("put", NoWord),
                           ("best 2", NoNumber)]:
            self.refused(desk, error, row)
        desk.say("back")
        # What is refused, and what only tells, leaves what may be done again.
        for row, error in [("put 2", NoText), ("off 9", NoNumber), ("change 9 -", NoPlace), ("put", NoWord),
                           ("back", NoBack)]:
            self.refused(desk, error, row)
        for row in ["round", "slips 1011", "places 1", "weights 4", "least 4", "bursts 4 2", "pair 7", "odd", "best 7",
                    "whole 1"]:
            desk.say(row)
        self.answer(desk, "again", show_row(check_of(STYLE, ROW + (1,))))
        self.refused(desk, NoBack, "again")
        desk.say("back")
        desk.say("off 0")
        self.refused(desk, NoBack, "again")

    def test_whole(self):
        dice = chance(276)
        for many in [0, 1, 300, 400]:
            row = some_row(dice, many)
            desk = desk_of(STYLE, row)
            check = check_of(STYLE, row)
            self.answer(desk, f"whole {show_row(check)}", "yes")
            for at in range(3):
                self.answer(desk, f"whole {show_row(exchanged(check, at))}", "no")
            for together in [420, 421]:
                more = some_row(dice, together - many - 3)
                if together - many <= 420:
                    bits = more + check_of(STYLE, row + more)
                    self.answer(desk, f"whole {show_row(bits)}", "yes" if together == 420 else "no")

    def test_two_side_by_side(self):
        one, other = Desk(TEXT), Desk(TEXT)
        one.say("put 111")
        self.agree(other, STYLE, ROW)
        self.refused(other, NoBack, "back")
        other.say("off 5")
        self.agree(one, STYLE, ROW + (1, 1, 1))
        self.agree(other, STYLE, ())


class DivisorWords(Said):
    def styles(self):
        dice = chance(277)
        return [some_style(dice, size) for size in range(1, 17)]

    def test_round(self):
        self.answer(desk_of(FIFTEEN, ()), "round", "15 = 3^1 * 5^1")
        self.answer(Desk("11 0 0 -"), "round", "1 =")
        self.answer(Desk(TEXT), "round", "7 = 7^1")
        for style in self.styles():
            self.answer(desk_of(style, ROW), "round", show_round(round_paper(style[0])))

    def test_slips(self):
        desk = Desk(TEXT)
        for word, right in [("-", "no"), ("0", "no"), ("0000", "no"), ("1011", "yes"), ("01011", "yes"), ("1", "no"),
                            ("11101", "yes"), ("1000", "no")]:
            self.answer(desk, f"slips {word}", right)
        for number in range(256):
            row = row_of(8, number)
            self.answer(desk, f"slips {show_row(row)}", "yes" if slips(STYLE[0], row) else "no")
        self.answer(desk, "slips " + "0" * 416 + "1011", "yes")

    def test_places(self):
        dice = chance(278)
        for style in self.styles():
            desk = desk_of(style, ROW)
            whole = checked_row(style, some_row(dice, 30))
            for row in [whole, exchanged(whole, 0), exchanged(whole, 17), exchanged(whole, len(whole) - 1), (), (1,),
                        some_row(dice, 100), checked_row(style, some_row(dice, 420 - len(style[0]) + 1))]:
                self.answer(desk, f"places {show_row(row)}", show_places(found_places(style, row)))
            self.answer(desk, f"places {show_row(whole)}", "none")
        desk = desk_of(((1, 0, 1, 1), (0, 0, 0), (0, 0, 0)), ())
        self.answer(desk, "places 10000000", "0,7")
        self.answer(desk, "places 0010000", "2")
        self.answer(desk, "places -", "none")

    def test_weights_and_least(self):
        self.answer(Desk(TEXT), "weights 7", "1,0,0,7,7,0,0,1")
        self.answer(Desk(TEXT), "weights 0", "1")
        self.answer(Desk(TEXT), "least 3", "none")
        self.answer(Desk(TEXT), "least 0", "none")
        self.answer(Desk(TEXT), "least 4", "3 1011")
        for style in self.styles():
            desk = desk_of(style, ROW)
            for length in [0, 1, 8, 9, 23, 24]:
                if len(style[0]) > 9:
                    self.refused(desk, NoNumber, f"weights {length}")
                    self.refused(desk, NoNumber, f"least {length}")
                    continue
                weights = ",".join(str(weight) for weight in weights_of(style[0], length))
                self.answer(desk, f"weights {length}", weights)
                self.least(desk, style[0], length)
            for length in [25, 26, 100, 10 ** 30 - 1]:
                self.refused(desk, NoNumber, f"weights {length}")
                self.refused(desk, NoNumber, f"least {length}")

    def least(self, desk, divisor, length):
        """Any change that slips with just so many 1s may be told."""
        told = asked(self, desk.say, f"least {length}")
        right = least_of(divisor, length)
        if right is None:
            self.assertEqual(told, "none")
            return
        number, change = told.split(" ")
        self.assertEqual(number, str(right[0]))
        self.assertEqual(len(change), length)
        self.assertEqual(change.count("1"), right[0])
        self.assertTrue(slips(divisor, tuple(int(bit) for bit in change)))

    def test_bursts(self):
        self.answer(Desk(TEXT), "bursts 7 4", "16 4")
        self.answer(Desk(TEXT), "bursts 7 3", "10 0")
        for style in self.styles():
            desk = desk_of(style, ROW)
            for many in [0, 1, 16, 17, 100, 400]:
                for long in [1, 2, 16, 17, 18, 100, 400, 401, 10 ** 30 - 1]:
                    right = f"{many_bursts(many, long)} {slipping_bursts(style[0], many, long)}"
                    self.answer(desk, f"bursts {many} {long}", right)
            for row in ["bursts 401 1", "bursts 400 0", "bursts 0 0", "bursts 401 0", "bursts " + "9" * 30 + " 1"]:
                self.refused(desk, NoNumber, row)

    def test_pair(self):
        self.answer(Desk(TEXT), "pair 7", "yes")
        self.answer(Desk(TEXT), "pair 8", "no")
        for style in self.styles():
            desk = desk_of(style, ROW)
            for apart in [1, 2, 7, 14, 15, 255, 65535, 10 ** 29, round_paper(style[0])[0], 10 ** 30 - 1]:
                self.answer(desk, f"pair {apart}", "yes" if pair_slips(style[0], apart) else "no")
            self.refused(desk, NoNumber, "pair 0")

    def test_odd(self):
        self.answer(Desk(TEXT), "odd", "no")
        self.answer(Desk("11 0 0 -"), "odd", "yes")
        for style in self.styles():
            self.answer(desk_of(style, ROW), "odd", "yes" if odd_told(style[0]) else "no")

    def test_best(self):
        self.answer(Desk(TEXT), "best 7", "3 1011 1101")
        self.answer(Desk(TEXT), "best 4", "4 1111")
        for style in self.styles():
            desk, size = desk_of(style, ROW), len(style[0]) - 1
            for length in range(19):
                if size > 5 or not size < length <= 16:
                    self.refused(desk, NoNumber, f"best {length}")
                    continue
                number, divisors = best_of(size, length)
                right = " ".join([str(number)] + [show_row(divisor) for divisor in divisors])
                self.answer(desk, f"best {length}", right)
            self.refused(desk, NoNumber, "best " + "9" * 30)
