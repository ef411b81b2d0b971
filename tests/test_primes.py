"""Numbers modulo a prime ([1])."""

import math
import unittest

from firstsafe.errors import NoInverse
from firstsafe.primes import choose, inverse, is_prime
from tests.helper import NO_NUMBERS, STRANGE, refuses, runs_as_shown, same


def sieve(bound):
    """All primes below the bound."""
    open_numbers = [True] * bound
    for n in range(2, bound):
        for multiple in range(2 * n, bound, n):
            open_numbers[multiple] = False
    return [n for n in range(2, bound) if open_numbers[n]]


class Primes(unittest.TestCase):
    def test_all_primes_up_to_the_greatest_and_none_above(self):
        found = [n for n in range(-100, 70000) if is_prime(n)]
        self.assertEqual(found, [n for n in sieve(70000) if n <= 65521])
        self.assertEqual((found[0], found[-1], len(found)), (2, 65521, 6542))

    def test_the_edges(self):
        for n, wanted in ((2, True), (65521, True), (65519, True), (65537, False), (65539, False), (2147483647, False),
                          (1, False), (0, False), (-2, False), (-3, False), (65522, False)):
            same(self, is_prime(n), wanted)

    def test_squares_of_primes(self):
        for p in sieve(257):
            same(self, is_prime(p), True)
            same(self, is_prime(p * p), False)
        same(self, is_prime(241 * 251), False)

    def test_other_values_are_judged(self):
        for thing in STRANGE + NO_NUMBERS + ((2,), (2, 3), [2], "2", 2.0, 3.0):
            same(self, is_prime(thing), False)

    def test_by_name(self):
        same(self, is_prime(n=7), True)


class Inverses(unittest.TestCase):
    def test_all_inverses_of_small_primes(self):
        for p in sieve(60):
            for a in range(-2 * p, 3 * p):
                if a % p == 0:
                    refuses(self, NoInverse, a, inverse, a, p)
                else:
                    b = inverse(a, p)
                    self.assertTrue(0 <= b < p)
                    self.assertEqual(a * b % p, 1)

    def test_great_numbers(self):
        for p in (2, 3, 65519, 65521):
            for a in (1, -1, 12345, 65520, 10 ** 50 + 1, -(10 ** 50) - 3):
                if a % p:
                    b = inverse(a, p)
                    self.assertTrue(0 <= b < p)
                    self.assertEqual(a * b % p, 1)
        refuses(self, NoInverse, 65521 * 10 ** 30, inverse, 65521 * 10 ** 30, 65521)
        refuses(self, NoInverse, -65521, inverse, -65521, 65521)
        refuses(self, NoInverse, 0, inverse, 0, 2)

    def test_by_name(self):
        same(self, inverse(p=7, a=3), 5)


class Choices(unittest.TestCase):
    def test_against_the_numbers_themselves(self):
        for p in (2, 3, 5, 97, 101, 65521):
            for n in (0, 1, 2, 3, 4, 5, 12, 33, 64, 98, 99):
                for j in range(n + 3):
                    same(self, choose(n, j, p), math.comb(n, j) % p)

    def test_more_than_there_are(self):
        for p in (2, 65521):
            for n in (0, 1, 99):
                same(self, choose(n, n, p), 1)
                same(self, choose(n, 0, p), 1)
                same(self, choose(n, n + 1, p), 0)
                same(self, choose(n, 10 ** 30, p), 0)

    def test_by_name(self):
        same(self, choose(p=7, j=1, n=9), 2)


class Example(unittest.TestCase):
    def test_of_the_interface(self):
        runs_as_shown(self, """
>>> from firstsafe.primes import choose, inverse
>>> (inverse(3, 5), inverse(-1, 7), choose(5, 2, 3), choose(2, 5, 3))
(2, 6, 1, 0)
""")


if __name__ == "__main__":
    unittest.main()
