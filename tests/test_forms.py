"""Forms, their values, products and quotients ([2])."""

import random
import unittest
from itertools import product as every
from math import comb

from firstsafe.errors import BadForm, BadGround, BadLengths, TooMany
from firstsafe.forms import line, product, quotient, times, value
from tests.helper import lengths_of, refuses, runs_as_shown, same


def plain_value(p, form, point, j):
    """The value as [2] writes it."""
    n = len(form)
    if j >= n:
        return 0
    if point == p:
        return form[n - 1 - j]
    return sum(form[t] * comb(t, j) * point ** (t - j) for t in range(j, n)) % p


def some_forms(p, seed, greatest):
    """Forms of 1 to `greatest` numbers."""
    chance = random.Random(seed)
    for many in list(range(1, greatest + 1)):
        yield tuple(chance.choice((0, chance.randrange(p))) for _ in range(many))


class Values(unittest.TestCase):
    def test_of_all_small_forms(self):
        for p, greatest in ((2, 5), (3, 4), (5, 2)):
            for many in range(1, greatest + 1):
                for form in every(range(p), repeat=many):
                    for point in range(p + 1):
                        for j in range(many + 2):
                            same(self, value(p, form, point, j), plain_value(p, form, point, j))

    def test_of_longer_forms(self):
        for p in (2, 3, 7, 97, 65521):
            for form in some_forms(p, p, 14):
                for point in (0, 1, p // 2, p - 1, p):
                    for j in (0, 1, 2, 5, 11, 12, 13, 14, 98):
                        same(self, value(p, form, point, j), plain_value(p, form, point, j))

    def test_of_the_longest_forms(self):
        for p in (2, 101, 65521):
            form = tuple((i * i + 1) % p for i in range(99))
            for point in (0, 1, p - 1, p):
                for j in (0, 1, 49, 97, 98):
                    same(self, value(p, form, point, j), plain_value(p, form, point, j))

    def test_behind_the_form(self):
        for point in range(6):
            for j in (3, 4, 50, 98):
                same(self, value(5, (1, 2, 3), point, j), 0)
            same(self, value(5, (4,), point, 0), 4)
            same(self, value(5, (4,), point, 1), 0)

    def test_at_the_far_point_from_the_last_to_the_first(self):
        same(self, tuple(value(7, (1, 2, 3, 4), 7, j) for j in range(6)), (4, 3, 2, 1, 0, 0))
        same(self, tuple(value(7, (1, 2, 3, 4), 0, j) for j in range(6)), (1, 2, 3, 4, 0, 0))

    def test_the_degree_counts(self):
        same(self, value(5, (1,), 5, 0), 1)
        same(self, value(5, (1, 0), 5, 0), 0)
        same(self, value(5, (1, 0), 5, 1), 1)


class Products(unittest.TestCase):
    def test_of_two_forms(self):
        for p in (2, 3, 5):
            for f in every(range(p), repeat=2):
                for g in every(range(p), repeat=3):
                    wanted = (f[0] * g[0], f[0] * g[1] + f[1] * g[0], f[0] * g[2] + f[1] * g[1], f[1] * g[2])
                    wanted = tuple(a % p for a in wanted)
                    same(self, times(p, f, g), wanted)
                    same(self, times(p, g, f), wanted)

    def test_lengths_and_zeros(self):
        same(self, times(5, (0, 0), (0, 0, 0)), (0, 0, 0, 0))
        same(self, times(5, (1,), (3, 0)), (3, 0))
        same(self, times(5, (1, 0), (1, 0)), (1, 0, 0))
        same(self, times(65521, (65520,), (65520,)), (1,))
        self.assertEqual(len(times(7, (1,) * 50, (2,) * 50)), 99)
        self.assertEqual(len(times(7, (1,) * 99, (2,))), 99)

    def test_values_multiply(self):
        f, g = (1, 2, 3), (4, 0, 2, 6)
        for point in range(8):
            got = value(7, times(7, f, g), point, 0)
            self.assertEqual(got, value(7, f, point, 0) * value(7, g, point, 0) % 7)


class Lines(unittest.TestCase):
    def test_each_point(self):
        for p in (2, 3, 5, 65521):
            for point in (0, 1, p - 1):
                same(self, line(p, point), (-point % p, 1))
            same(self, line(p, p), (1, 0))
        same(self, line(5, 0), (0, 1))
        same(self, line(5, 2), (3, 1))

    def test_zero_at_its_point_alone(self):
        for p in (2, 3, 5, 7):
            for point in range(p + 1):
                zeros = [other for other in range(p + 1) if value(p, line(p, point), other, 0) == 0]
                self.assertEqual(zeros, [point])


class ProductsOfLines(unittest.TestCase):
    def test_zero_as_often_as_the_lengths_tell(self):
        for p, points in ((2, (0, 1, 2)), (3, (3, 0, 2)), (5, (5, 4, 1))):
            for total in range(6):
                for lengths in lengths_of(3, total):
                    form = product((p, 2, points), lengths)
                    self.assertEqual(len(form), total + 1)
                    for point, length in zip(points, lengths):
                        values = [value(p, form, point, j) for j in range(length + 1)]
                        self.assertEqual(values[:length], [0] * length)
                        self.assertNotEqual(values[length], 0)

    def test_no_line(self):
        same(self, product((5, 3, (0, 1, 2, 5)), (0, 0, 0, 0)), (1,))

    def test_the_far_point(self):
        same(self, product((5, 3, (5,)), (2,)), (1, 0, 0))
        same(self, product((5, 3, (0, 5)), (2, 3)), (0, 0, 1, 0, 0, 0))

    def test_is_the_product_of_the_lines(self):
        same(self, product((7, 3, (2, 7, 0)), (2, 1, 1)),
             times(7, times(7, line(7, 2), line(7, 2)), times(7, line(7, 7), line(7, 0))))

    def test_up_to_98_lines(self):
        self.assertEqual(len(product((7, 3, (0, 1)), (97, 1))), 99)
        self.assertEqual(len(product((7, 3, (3, 7)), (98, 0))), 99)
        refuses(self, TooMany, 99, product, (7, 3, (0, 1)), (98, 1))
        refuses(self, TooMany, 99, product, (7, 3, (0, 1)), (0, 99))
        refuses(self, TooMany, 8192, product, (7, 3, tuple(range(8))), (1024,) * 8)

    def test_errors_in_order(self):
        refuses(self, BadGround, 0, product, (4, 3, (0, 1)), (99,))
        refuses(self, BadGround, -1, product, None, None)
        refuses(self, BadLengths, -1, product, (5, 3, (0, 1)), (99,))
        refuses(self, BadLengths, 1, product, (5, 3, (0, 1)), (99, 1025))
        refuses(self, BadLengths, 0, product, (5, 3, (0, 1)), (True, 99))


class Quotients(unittest.TestCase):
    def test_against_all_forms(self):
        for p, nf, ng in ((2, 4, 2), (2, 4, 3), (2, 3, 3), (3, 3, 2), (3, 3, 1), (3, 2, 3), (2, 1, 1)):
            answers = {}
            for g in every(range(p), repeat=ng):
                for h in every(range(p), repeat=nf - ng + 1) if nf >= ng else ():
                    answers.setdefault((times(p, h, g), g), h)
            for f in every(range(p), repeat=nf):
                for g in every(range(p), repeat=ng):
                    if any(g):
                        same(self, quotient(p, f, g), answers.get((f, g)))
                    else:
                        refuses(self, BadForm, 1, quotient, p, f, g)

    def test_undoes_products(self):
        for p in (2, 3, 7, 65521):
            for f in some_forms(p, 1, 9):
                for g in some_forms(p, 2, 9):
                    if any(g):
                        same(self, quotient(p, times(p, f, g), g), f)

    def test_the_greatest_product(self):
        f = tuple(i % 7 for i in range(50))
        g = (0, 0) + tuple(3 * i % 7 for i in range(1, 46)) + (0, 0, 0)
        same(self, quotient(7, times(7, f, g), g), f)
        broken = times(7, f, g)[:-1] + (1,)
        same(self, quotient(7, broken, g), None)

    def test_a_longer_divisor(self):
        same(self, quotient(5, (1, 2), (1, 2, 0)), None)
        same(self, quotient(5, (0, 0), (0, 0, 1)), None)
        refuses(self, BadForm, 1, quotient, 5, (1,), (0, 0, 0))

    def test_zeros(self):
        same(self, quotient(5, (0, 0, 0), (1, 2)), (0, 0))
        same(self, quotient(5, (0, 0, 0), (0, 1, 0)), (0,))
        refuses(self, BadForm, 1, quotient, 5, (0, 0, 0), (0, 0))

    def test_the_degree_counts(self):
        same(self, quotient(5, (1, 0, 0), (1, 0)), (1, 0))
        same(self, quotient(5, (1, 2), (1, 0)), None)
        same(self, quotient(5, (0, 2, 0), (1, 0)), (0, 2))
        same(self, quotient(5, (2, 0, 0), (0, 1)), None)


class Example(unittest.TestCase):
    def test_of_the_interface(self):
        runs_as_shown(self, """
>>> from firstsafe.forms import product, quotient, times, value
>>> (value(5, (1, 2, 3), 2, 0), value(5, (1, 2, 3), 2, 1), value(5, (1, 2, 3), 5, 0))
(2, 4, 3)
>>> product((3, 5, (0, 1, 2, 3)), (0, 3, 0, 0))
(2, 0, 0, 1)
>>> quotient(5, (3, 4, 1), (3, 1))
(1, 1)
""")

    def test_by_name(self):
        same(self, value(j=1, point=2, form=(1, 2, 3), p=5), 4)
        same(self, times(g=(1, 1), f=(3, 1), p=5), (3, 4, 1))
        same(self, line(point=1, p=5), (4, 1))
        same(self, product(lengths=(0, 3, 0, 0), ground=(3, 5, (0, 1, 2, 3))), (2, 0, 0, 1))
        same(self, quotient(g=(3, 1), f=(3, 4, 1), p=5), (1, 1))


if __name__ == "__main__":
    unittest.main()
