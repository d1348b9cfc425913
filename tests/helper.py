"""What several tests use: things of all kinds, and reckoning by whole numbers to compare with.

The package reckons with tuples of bits; here a row is a whole number, so that
both would have to be wrong in the same way for a fault to stay unseen.
"""

import random


def nested(depth):
    thing = [1]
    for step in range(depth - 1):
        thing = [thing] if step % 2 else (thing,)
    return thing


def tall_dict(depth):
    thing = {"bit": 1}
    for step in range(depth - 1):
        thing = {step: thing}
    return thing


# None of these is a row, whatever a function asks for.
NO_ROWS = [
    None, True, False, 0, 1, 2, -1, 7, 10 ** 29, -(10 ** 29),
    "", "1", "101", "-", "a\nb",
    [], [1], [0], [1, 0, 1], [1, 1], [[1, 1]], [True],
    {}, {0: 1, 1: 1}, {1: 1}, {"a": [1]}, {(1, 1): (1, 1)},
    (True,), (False,), (1, True), (True, 1), (1, False, 1), (1, 0, True),
    (2,), (-1,), (1, 2, 1), (1, -1, 1), (1, 10 ** 29, 1),
    (None,), (1, None, 1), ("1",), (1, "0", 1), ("1", "0", "1"),
    ((),), ((1,),), ((1, 1),), (1, (0,), 1), (1, [], 1), ([1, 1],), (1, {}, 1), ({},),
    (1,) * 421, (0,) * 421, (1,) + (0,) * 419 + (1,), (0,) * 1000,
    (0,) * 419 + (2,), (0,) * 200 + (True,) + (0,) * 200,
    nested(12), (nested(11),), tall_dict(12), (1, tall_dict(11), 1),
]


def chance(seed):
    return random.Random(seed)


def some_row(dice, many):
    return tuple(dice.randrange(2) for step in range(many))


def some_divisor(dice, size):
    return (1,) + some_row(dice, size - 1) + (1,)


def some_style(dice, size):
    return (some_divisor(dice, size), some_row(dice, size), some_row(dice, size))


def worth(row):
    return int("0" + "".join(str(bit) for bit in row), 2)


def spelled(many, number):
    return tuple(int(sign) for sign in bin(number)[2:].rjust(many, "0")) if many else ()


def times_numbers(one, other):
    product = 0
    while other:
        if other & 1:
            product ^= one
        one <<= 1
        other >>= 1
    return product


def rest_number(number, by):
    long = by.bit_length()
    while number.bit_length() >= long:
        number ^= by << (number.bit_length() - long)
    return number


def plain(thing):
    """Whether a thing is of plain kinds throughout."""
    if type(thing) in (tuple, list):
        return all(plain(part) for part in thing)
    return type(thing) in (int, bool, str, type(None))


def plain_row(thing):
    return type(thing) is tuple and all(type(bit) is int and bit in (0, 1) for bit in thing)


def asked(case, ask, *handed):
    """What is told, of plain kinds, with what was handed in as it was."""
    before = repr(handed)
    told = ask(*handed)
    case.assertEqual(repr(handed), before)
    case.assertTrue(plain(told), told)
    return told


def assert_refused(case, error, ask, *handed):
    """Refused with that class itself, not one beneath it, and what was handed in as it was."""
    before = repr(handed)
    try:
        told = ask(*handed)
    except error as caught:
        case.assertIs(type(caught), error, handed)
        case.assertEqual(repr(handed), before)
        return
    case.fail(f"{ask.__name__}{handed!r:.200} told {told!r:.200}")


def exchanged(row, *places):
    """The row with its bits at these places changed."""
    return tuple(1 - bit if at in places else bit for at, bit in enumerate(row))
