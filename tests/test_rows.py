"""Cells, rows and their equations ([2.1], [2.2], [0.3](a))."""

import random
import unittest
from collections import Counter

from firstsafe.errors import BadBatch, BadGround, BadPlace, BadShelf
from firstsafe.forms import value
from firstsafe.matrices import reduced
from firstsafe.rows import cell, equation, row
from tests.helper import NO_NUMBERS, batches_of, lengths_of, refuses, runs_as_shown, same

GROUND = (5, 3, (0, 1, 2, 5))
GREAT = (65521, 12, (65521, 0, 65520, 1, 2, 3, 4, 5))


def some_batches(ground, seed, many):
    """Batches of the ground, by chance."""
    chance = random.Random(seed)
    return [tuple(chance.randrange(ground[0]) for _ in range(ground[1])) for _ in range(many)]


class Rows(unittest.TestCase):
    def test_the_examples_of_2_2(self):
        same(self, row(GROUND, (1, 2, 3), 0, 5), (1, 2, 3, 0, 0))
        same(self, row(GROUND, (1, 2, 3), 1, 5), (1, 3, 3, 0, 0))
        same(self, row(GROUND, (1, 2, 3), 2, 5), (2, 4, 3, 0, 0))
        same(self, row(GROUND, (1, 2, 3), 3, 5), (3, 2, 1, 0, 0))

    def test_cells_are_values(self):
        for ground in (GROUND, GREAT, (2, 4, (2, 1, 0)), (3, 1, (1,))):
            for batch in some_batches(ground, 1, 6):
                for shelf, point in enumerate(ground[2]):
                    for j in range(ground[1] + 3):
                        same(self, cell(ground, batch, shelf, j), value(ground[0], batch, point, j))

    def test_rows_are_cells(self):
        for ground in (GROUND, GREAT, (2, 4, (2, 1, 0))):
            for batch in some_batches(ground, 2, 4):
                for shelf in range(len(ground[2])):
                    for many in (0, 1, 2, ground[1], ground[1] + 4):
                        wanted = tuple(cell(ground, batch, shelf, j) for j in range(many))
                        same(self, row(ground, batch, shelf, many), wanted)

    def test_zeros_from_k_on(self):
        same(self, row(GREAT, (65520,) * 12, 3, 1024)[12:], (0,) * 1012)
        same(self, row(GROUND, (4, 4, 4), 3, 1024), (4, 4, 4) + (0,) * 1021)
        for j in (3, 4, 100, 1023):
            for shelf in range(4):
                same(self, cell(GROUND, (4, 4, 4), shelf, j), 0)

    def test_points_0_and_far(self):
        batch = tuple(range(3, 15))
        same(self, row(GREAT, batch, 1, 12), batch)
        same(self, row(GREAT, batch, 0, 12), batch[::-1])

    def test_places(self):
        same(self, cell(GROUND, (1, 2, 3), 0, 1023), 0)
        refuses(self, BadPlace, 1024, cell, GROUND, (1, 2, 3), 0, 1024)
        refuses(self, BadPlace, -1, cell, GROUND, (1, 2, 3), 0, -1)
        self.assertEqual(len(row(GROUND, (1, 2, 3), 0, 1023)), 1023)
        self.assertEqual(len(row(GROUND, (1, 2, 3), 0, 1024)), 1024)
        same(self, row(GROUND, (1, 2, 3), 0, 0), ())
        refuses(self, BadPlace, 1025, row, GROUND, (1, 2, 3), 0, 1025)
        refuses(self, BadPlace, -1, row, GROUND, (1, 2, 3), 0, -1)
        same(self, equation(GROUND, 0, 1023), (0, 0, 0))
        refuses(self, BadPlace, 1024, equation, GROUND, 0, 1024)
        refuses(self, BadPlace, -1, equation, GROUND, 0, -1)
        for wrong in NO_NUMBERS + (None, 10 ** 40):
            refuses(self, BadPlace, wrong, cell, GROUND, (1, 2, 3), 0, wrong)
            refuses(self, BadPlace, wrong, row, GROUND, (1, 2, 3), 0, wrong)
            refuses(self, BadPlace, wrong, equation, GROUND, 0, wrong)

    def test_the_shelves(self):
        for call, before, after in ((cell, (GROUND, (1, 2, 3)), (0,)), (row, (GROUND, (1, 2, 3)), (1,)),
                                    (equation, (GROUND,), (0,))):
            call(*before, 3, *after)
            for wrong in NO_NUMBERS + (None, 4, 5, -1, 10 ** 40):
                refuses(self, BadShelf, wrong, call, *before, wrong, *after)

    def test_errors_in_order(self):
        for call in (cell, row):
            refuses(self, BadGround, 1, call, (5, 0, ()), None, 9, 9999)
            refuses(self, BadGround, -1, call, None, None, None, None)
            refuses(self, BadBatch, -1, call, GROUND, (1, 2), 9, 9999)
            refuses(self, BadBatch, 1, call, GROUND, (1, 5, 9), 9, 9999)
            refuses(self, BadBatch, 0, call, GROUND, (True, 1, 1), 0, 0)
            refuses(self, BadShelf, 4, call, GROUND, (1, 2, 3), 4, 9999)
        refuses(self, BadGround, 2, equation, (5, 3, (1, 1)), 9, 9999)
        refuses(self, BadShelf, 4, equation, GROUND, 4, 9999)


class Equations(unittest.TestCase):
    def test_give_the_cells(self):
        for ground in (GROUND, GREAT, (2, 5, (2, 1, 0)), (3, 7, (1, 2, 3)), (2, 1, (2, 0))):
            for shelf in range(len(ground[2])):
                for j in list(range(ground[1] + 2)) + [1023]:
                    weights = equation(ground, shelf, j)
                    self.assertIs(type(weights), tuple)
                    self.assertEqual(len(weights), ground[1])
                    self.assertTrue(all(type(a) is int and 0 <= a < ground[0] for a in weights))
                    for batch in some_batches(ground, j, 5):
                        total = sum(a * b for a, b in zip(weights, batch)) % ground[0]
                        self.assertEqual(total, cell(ground, batch, shelf, j))

    def test_zeros_only_from_k_on(self):
        for ground in (GROUND, GREAT, (2, 12, (2, 1, 0)), (3, 7, (1, 2, 3))):
            for shelf in range(len(ground[2])):
                for j in range(ground[1] + 5):
                    self.assertEqual(any(equation(ground, shelf, j)), j < ground[1])


class Beginnings(unittest.TestCase):
    """[0.3](a): any k cells that are beginnings of rows determine the batch."""

    def test_equations_of_up_to_k_cells_are_independent(self):
        for ground in ((2, 3, (0, 1, 2)), (2, 6, (2, 1, 0)), (3, 4, (0, 1, 2, 3)), (3, 8, (3, 1)), (5, 5, (0, 1, 5, 3)),
                       (7, 3, tuple(range(8))), (65521, 6, (0, 65521, 65520)), (2, 12, (1, 2)), (2, 1, (0, 1, 2))):
            p, k, points = ground
            for m in range(k + 1):
                for lengths in lengths_of(len(points), m):
                    rows = tuple(equation(ground, shelf, j)
                                 for shelf, length in enumerate(lengths) for j in range(length))
                    self.assertEqual(len(reduced(rows, k, p)), m)

    def test_fewer_cells_leave_all_the_others_possible(self):
        for ground in ((2, 4, (0, 1, 2)), (3, 3, (3, 0, 2)), (5, 2, (0, 1, 5))):
            p, k, points = ground
            rows = {batch: [row(ground, batch, shelf, k) for shelf in range(len(points))]
                    for batch in batches_of(p, k)}
            for m in range(k + 1):
                for lengths in lengths_of(len(points), m):
                    seen = Counter(tuple(cells[:length] for cells, length in zip(found, lengths))
                                   for found in rows.values())
                    self.assertEqual(set(seen.values()), {p ** (k - m)})


class Example(unittest.TestCase):
    def test_of_the_interface(self):
        runs_as_shown(self, """
>>> from firstsafe.rows import equation, row
>>> row((5, 3, (0, 1, 2, 5)), (1, 2, 3), 2, 4)
(2, 4, 3, 0)
>>> equation((5, 3, (0, 1, 2, 5)), 2, 1)
(0, 1, 4)
""")

    def test_by_name(self):
        same(self, cell(j=1, shelf=2, batch=(1, 2, 3), ground=GROUND), 4)
        same(self, row(many=2, shelf=2, batch=(1, 2, 3), ground=GROUND), (2, 4))
        same(self, equation(j=1, shelf=2, ground=GROUND), (0, 1, 4))


if __name__ == "__main__":
    unittest.main()
