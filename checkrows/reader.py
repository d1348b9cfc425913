"""Texts of rows, styles and papers of rounds read back (point 28)."""

from checkrows.errors import NoText
from checkrows.rows import MOST_BITS
from checkrows.styles import need_style

FIGURES = "0123456789"
MOST_FIGURES = 30


def need_written(right):
    """Refuses a text that is not written just so."""
    if not right:
        raise NoText("this is not written as it is told")


def all_of(text, signs):
    """Whether a text has no other signs than these."""
    return all(sign in signs for sign in text)


def read_number(text):
    """The whole number, from 0 on, that a text writes."""
    need_written(text != "" and len(text) <= MOST_FIGURES and all_of(text, FIGURES))
    need_written(text == "0" or not text.startswith("0"))
    return int(text)


def read_row(text):
    """The row that a text, whatever it is, writes."""
    need_written(isinstance(text, str))
    if text == "-":
        return ()
    need_written(text != "" and len(text) <= MOST_BITS and all_of(text, "01"))
    return tuple(int(sign) for sign in text)


def read_rows(text, many):
    """The list of so many rows that a text, whatever it is, writes with single blanks between."""
    need_written(isinstance(text, str))
    words = text.split(" ")
    need_written(len(words) == many)
    return [read_row(word) for word in words]


def read_style(text):
    """The style that a text, whatever it is, writes."""
    divisor, begin, end = read_rows(text, 3)
    style = (divisor, begin, end)
    need_style(style)
    return style


def read_power(text):
    """The tuple (prime, how often) that a text writes, whether or not the one is a prime."""
    prime, sign, often = text.partition("^")
    return read_number(prime), read_number(often)


def read_primes(text):
    """The list of what stands behind the sign = of a paper."""
    if text == "":
        return []
    need_written(text.startswith(" "))
    return [read_power(power) for power in text[1:].split(" * ")]


def read_round(text):
    """The paper of a round that a text, whatever it is, writes; its form alone is looked at."""
    need_written(isinstance(text, str))
    number, sign, primes = text.partition(" =")
    need_written(sign != "")
    return read_number(number), read_primes(primes)
