"""Rows of numbers modulo a prime ([1.1])."""

import random
import unittest
from itertools import product

from firstsafe.matrices import kernel_of, reduced
from tests.helper import runs_as_shown, same


def span(rows, many, p):
    """All combinations of the rows."""
    return {tuple(sum(a * row[c] for a, row in zip(factors, rows)) % p for c in range(many))
            for factors in product(range(p), repeat=len(rows))}


def heads_of(rows):
    """The columns of the first numbers that are not 0."""
    return [next(c for c, a in enumerate(row) if a) for row in rows]


def some_rows(seed):
    """Rows of all sorts: few and many, with zeros, with rows that others span."""
    chance = random.Random(seed)
    for p, top in ((2, 4), (3, 3), (5, 2), (7, 2)):
        for _ in range(120):
            many = chance.randint(1, 4)
            rows = [tuple(chance.choice((0, chance.randrange(p))) for _ in range(many))
                    for _ in range(chance.randint(0, top))]
            yield p, many, tuple(rows)


class Reduced(unittest.TestCase):
    def test_is_in_reduced_form(self):
        for p, many, rows in some_rows(1):
            found = reduced(rows, many, p)
            self.assertIs(type(found), tuple)
            self.assertTrue(all(type(row) is tuple and len(row) == many for row in found))
            self.assertTrue(all(0 <= a < p for row in found for a in row))
            self.assertTrue(all(any(row) for row in found))
            heads = heads_of(found)
            self.assertEqual(heads, sorted(set(heads)))
            for column, row in zip(heads, found):
                self.assertEqual([other[column] for other in found], [int(other is row) for other in found])

    def test_spans_the_same(self):
        for p, many, rows in some_rows(2):
            self.assertEqual(span(reduced(rows, many, p), many, p), span(rows, many, p))

    def test_is_unique(self):
        chance = random.Random(3)
        for p, many, rows in some_rows(3):
            mixed = list(rows)
            chance.shuffle(mixed)
            factors = [chance.randrange(1, p) for _ in mixed]
            mixed = [tuple(a * factor % p for a in row) for factor, row in zip(factors, mixed)] + list(rows[:1])
            same(self, reduced(tuple(mixed), many, p), reduced(rows, many, p))

    def test_no_rows_and_rows_of_zeros(self):
        same(self, reduced((), 1, 2), ())
        same(self, reduced((), 12, 65521), ())
        same(self, reduced(((0, 0, 0), (0, 0, 0)), 3, 5), ())
        same(self, reduced(((0, 0, 2), (0, 0, 0)), 3, 5), ((0, 0, 1),))

    def test_order_of_columns(self):
        same(self, reduced(((0, 0, 1), (0, 2, 0), (3, 0, 0)), 3, 5), ((1, 0, 0), (0, 1, 0), (0, 0, 1)))
        same(self, reduced(((0, 3, 1, 4), (0, 1, 2, 0)), 4, 7), ((0, 1, 0, 3), (0, 0, 1, 2)))

    def test_the_greatest_prime(self):
        same(self, reduced(((65520, 1), (1, 65520)), 2, 65521), ((1, 65520),))

    def test_more_rows_than_columns(self):
        same(self, reduced(tuple((i % 5, i * i % 5) for i in range(40)), 2, 5), ((1, 0), (0, 1)))


class Kernels(unittest.TestCase):
    def test_has_one_row_for_each_free_column(self):
        for p, many, rows in some_rows(4):
            heads = heads_of(reduced(rows, many, p))
            free = [c for c in range(many) if c not in heads]
            found = kernel_of(rows, many, p)
            self.assertIs(type(found), tuple)
            self.assertEqual(len(found), len(free))
            for column, way in zip(free, found):
                self.assertIs(type(way), tuple)
                self.assertEqual([way[c] for c in free], [int(c == column) for c in free])
                self.assertTrue(all(0 <= a < p for a in way))

    def test_spans_all_rows_with_sums_of_zero(self):
        for p, many, rows in some_rows(5):
            wanted = {way for way in product(range(p), repeat=many)
                      if all(sum(a * b for a, b in zip(row, way)) % p == 0 for row in rows)}
            self.assertEqual(span(kernel_of(rows, many, p), many, p), wanted)

    def test_no_rows(self):
        same(self, kernel_of((), 3, 2), ((1, 0, 0), (0, 1, 0), (0, 0, 1)))
        same(self, kernel_of(((0, 0),), 2, 5), ((1, 0), (0, 1)))
        same(self, kernel_of((), 1, 65521), ((1,),))

    def test_all_columns(self):
        same(self, kernel_of(((1, 2), (1, 3)), 2, 5), ())


class Example(unittest.TestCase):
    def test_of_the_interface(self):
        runs_as_shown(self, """
>>> from firstsafe.matrices import kernel_of, reduced
>>> reduced(((2, 1, 0), (1, 3, 4), (4, 2, 0)), 3, 5)
((1, 3, 0), (0, 0, 1))
>>> kernel_of(((2, 1, 0), (1, 3, 4), (4, 2, 0)), 3, 5)
((2, 1, 0),)
""")

    def test_by_name(self):
        same(self, reduced(p=5, many=1, rows=((3,),)), ((1,),))
        same(self, kernel_of(p=5, many=1, rows=()), ((1,),))


if __name__ == "__main__":
    unittest.main()
