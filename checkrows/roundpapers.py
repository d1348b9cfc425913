"""Papers of a round, and the checker that lets them by (point 16)."""

from checkrows.divisors import size_of
from checkrows.rounds import comes_round, round_of
from checkrows.rows import is_number, is_tuple_of

MOST_OFTEN = 16


def is_prime(n):
    """Whether a whole number is a prime."""
    if n < 2:
        return False
    by = 2
    while by * by <= n:
        if n % by == 0:
            return False
        by = by + 1
    return True


def is_prime_entry(thing, low, high):
    """Whether a thing is a tuple (prime, how often), the prime greater than low and at most high."""
    if not is_tuple_of(thing, 2):
        return False
    prime, often = thing
    if not is_number(prime) or not is_number(often):
        return False
    if prime <= low or prime > high or often < 1 or often > MOST_OFTEN:
        return False
    # Asked last: by now the number is small, however great the one handed in.
    return is_prime(prime)


def repeated_product(number, often):
    """The product of so many times the number."""
    product = 1
    for step in range(often):
        product = product * number
    return product


def are_primes_of(thing, n):
    """Whether a thing is a list of rising primes, with how often each, that come to n."""
    if not isinstance(thing, list):
        return False
    product = 1
    low = 1
    for entry in thing:
        if not is_prime_entry(entry, low, n):
            return False
        prime, often = entry
        product = product * repeated_product(prime, often)
        low = prime
    return product == n


def lets_round(divisor, paper):
    """Whether a paper, whatever it is, is let by as one of the divisor's round."""
    size = size_of(divisor)
    if not is_tuple_of(paper, 2):
        return False
    n, primes = paper
    if not is_number(n) or n < 1 or n >= 1 << size or not are_primes_of(primes, n):
        return False
    # Were the round a part of n, it would divide n over one of its primes.
    return comes_round(divisor, n) and not any(comes_round(divisor, n // prime) for prime, often in primes)


def primes_of(n):
    """The list of the primes of n, rising, with how often each."""
    primes = []
    left = n
    by = 2
    while left > 1:
        often = 0
        while left % by == 0:
            left = left // by
            often = often + 1
        if often > 0:
            primes.append((by, often))
        by = by + 1
    return primes


def round_paper(divisor):
    """The paper of a divisor's round."""
    n = round_of(divisor)
    return n, primes_of(n)
