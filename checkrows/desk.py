"""The desk: rows of words said to a keeper, each answered with a text (point 29)."""

from checkrows.best import best_of
from checkrows.bursts import many_bursts, slipping_bursts
from checkrows.changes import slips
from checkrows.divisors import size_of
from checkrows.errors import NoNumber, NoWord
from checkrows.keeper import Keeper
from checkrows.leasts import least_of
from checkrows.pairs import odd_told, pair_slips
from checkrows.places import found_places
from checkrows.reader import read_number, read_row, read_rows
from checkrows.roundpapers import round_paper
from checkrows.texts import show_numbers, show_places, show_round, show_row
from checkrows.weights import weights_of

MOST_WEIGHED = 24
MOST_WEIGHED_SIZE = 8
MOST_BURST_BITS = 400
MOST_BEST = 16
MOST_BEST_SIZE = 5


def yes_or_no(truth):
    """The word for a truth."""
    return "yes" if truth else "no"


def divisor_of(keeper):
    """The divisor of a keeper's style."""
    return keeper.style[0]


def need_taken(taken):
    """Refuses a number, or a divisor of a size, that is not taken."""
    if not taken:
        raise NoNumber("such a number, or a divisor of such a size, is not taken here")


def put_answer(keeper, bits):
    """To put ROW: the check then."""
    return show_row(keeper.put(bits))


def off_answer(keeper, many):
    """To off N: the check then."""
    return show_row(keeper.off(many))


def change_answer(keeper, place, bits):
    """To change N ROW: the check then."""
    return show_row(keeper.change(place, bits))


def back_answer(keeper):
    """To back: the check then."""
    return show_row(keeper.back())


def again_answer(keeper):
    """To again: the check then."""
    return show_row(keeper.again())


def row_answer(keeper):
    """To row: the row kept."""
    return show_row(keeper.row())


def check_answer(keeper):
    """To check: its check."""
    return show_row(keeper.check())


def many_answer(keeper):
    """To many: how many bits it has."""
    return str(keeper.many())


def whole_answer(keeper, bits):
    """To whole ROW: whether it is whole with these bits behind it."""
    return yes_or_no(keeper.whole(bits))


def round_answer(keeper):
    """To round: the paper of the divisor's round."""
    return show_round(round_paper(divisor_of(keeper)))


def slips_answer(keeper, row):
    """To slips ROW: whether this change slips."""
    return yes_or_no(slips(divisor_of(keeper), row))


def places_answer(keeper, row):
    """To places ROW: the places found for this row."""
    return show_places(found_places(keeper.style, row))


def need_weighed(divisor, length):
    """Refuses what weights and leasts are not told of."""
    need_taken(length <= MOST_WEIGHED and size_of(divisor) <= MOST_WEIGHED_SIZE)


def weights_answer(keeper, length):
    """To weights N: the weights for this length."""
    divisor = divisor_of(keeper)
    need_weighed(divisor, length)
    return show_numbers(weights_of(divisor, length))


def least_answer(keeper, length):
    """To least N: the least for this length."""
    divisor = divisor_of(keeper)
    need_weighed(divisor, length)
    least = least_of(divisor, length)
    if least is None:
        return "none"
    number, change = least
    return f"{number} {show_row(change)}"


def bursts_answer(keeper, many, long):
    """To bursts N N: how many bursts there are, and how many slip."""
    need_taken(many <= MOST_BURST_BITS and long >= 1)
    return f"{many_bursts(many, long)} {slipping_bursts(divisor_of(keeper), many, long)}"


def pair_answer(keeper, apart):
    """To pair N: whether a pair so far apart slips."""
    need_taken(apart >= 1)
    return yes_or_no(pair_slips(divisor_of(keeper), apart))


def odd_answer(keeper):
    """To odd: whether no odd change slips."""
    return yes_or_no(odd_told(divisor_of(keeper)))


def best_answer(keeper, length):
    """To best N: the best of the divisor's size for this length."""
    size = size_of(divisor_of(keeper))
    need_taken(size <= MOST_BEST_SIZE and length > size and length <= MOST_BEST)
    number, divisors = best_of(size, length)
    return " ".join([str(number)] + [show_row(divisor) for divisor in divisors])


# By the first word: the kinds of the words behind it, and what answers.
KINDS = {
    "put": ("ROW",), "off": ("N",), "change": ("N", "ROW"), "back": (), "again": (),
    "row": (), "check": (), "many": (), "whole": ("ROW",),
    "round": (), "slips": ("ROW",), "places": ("ROW",), "weights": ("N",), "least": ("N",),
    "bursts": ("N", "N"), "pair": ("N",), "odd": (), "best": ("N",),
}
ANSWERS = {
    "put": put_answer, "off": off_answer, "change": change_answer, "back": back_answer, "again": again_answer,
    "row": row_answer, "check": check_answer, "many": many_answer, "whole": whole_answer,
    "round": round_answer, "slips": slips_answer, "places": places_answer, "weights": weights_answer,
    "least": least_answer, "bursts": bursts_answer, "pair": pair_answer, "odd": odd_answer, "best": best_answer,
}


def read_word(kind, word):
    """What a word of that kind writes."""
    return read_row(word) if kind == "ROW" else read_number(word)


class Desk:
    """A keeper that is told rows of words."""

    def __init__(self, text):
        divisor, begin, end, row = read_rows(text, 4)
        self.keeper = Keeper((divisor, begin, end), row)

    def say(self, row):
        """The answer to a row of words."""
        if not isinstance(row, str):
            raise NoWord("only a text has words")
        first, *words = row.split(" ")
        if first not in KINDS or len(words) != len(KINDS[first]):
            raise NoWord("no such row of words is understood")
        told = [read_word(kind, word) for kind, word in zip(KINDS[first], words)]
        answer = ANSWERS[first]
        return answer(self.keeper, *told)
