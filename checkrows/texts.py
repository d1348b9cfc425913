"""Rows, styles, places and papers of rounds as texts (point 28)."""

from checkrows.styles import need_style


def show_row(row):
    """The bits of a row without blanks; a minus for none."""
    if len(row) == 0:
        return "-"
    return "".join(str(bit) for bit in row)


def show_style(style):
    """The divisor, begin and end of a style, blanks between."""
    need_style(style)
    return " ".join(show_row(part) for part in style)


def show_numbers(numbers):
    """The numbers of a list, commas between."""
    return ",".join(str(number) for number in numbers)


def show_places(places):
    """The places of a list, commas between; none by its word."""
    if len(places) == 0:
        return "none"
    return show_numbers(places)


def show_round(paper):
    """The number of a paper of a round, and the primes that come to it."""
    n, primes = paper
    if len(primes) == 0:
        return f"{n} ="
    powers = " * ".join(f"{prime}^{often}" for prime, often in primes)
    return f"{n} = {powers}"
