"""Primes, and numbers modulo a prime ([1])."""

from firstsafe.errors import NoInverse
from firstsafe.kinds import number_between
from firstsafe.limits import MOST_PRIME


def is_prime(n):
    """True if `n` is a prime number from 2 to 65521; a judge."""
    if not number_between(n, 2, MOST_PRIME):
        return False
    divisor = 2
    while divisor * divisor <= n:
        if n % divisor == 0:
            return False
        divisor += 1
    return True


def inverse(a, p):
    """The number b from 0 to p - 1 for which a * b is 1 modulo p."""
    left, rest = p, a % p
    if rest == 0:
        raise NoInverse(a)
    # Throughout, a * before is left and a * found is rest, modulo p.
    before, found = 0, 1
    while rest > 1:
        turns = left // rest
        left, rest = rest, left - turns * rest
        before, found = found, before - turns * found
    return found % p


def choose(n, j, p):
    """How many ways there are to choose j of n things, modulo p."""
    if j > n:
        return 0
    # Adding only: when p is small, the factorials of n are 0 modulo p and cannot be divided by.
    ways = [1]
    for _ in range(n):
        ways = [1] + [(a + b) % p for a, b in zip(ways, ways[1:])] + [1]
    return ways[j]
