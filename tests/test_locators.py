"""Locators ([8.4])."""

import random
import unittest

from firstsafe.errors import BadForm, BadGround, BadNumber, BadRows, NotSo
from firstsafe.forms import quotient, times
from firstsafe.locators import batch_of, locator
from firstsafe.rows import row
from tests.helper import (
    NO_NUMBERS, batches_of, few_torn, is_locator, refuses, runs_as_shown, same, torn_cells, torn_rows)

TWO = (5, 2, (0, 5))
BAD_GROUNDS = ((None, -1), ((4, 1, (0,)), 0), ((5, 0, (0,)), 1), ((5, 1, (0, 0)), 2))


def some_rows(seed, times_each):
    """Tiny grounds, rows and w with just enough cells or more, by chance."""
    chance = random.Random(seed)
    for ground in ((2, 1, (0, 1, 2)), (2, 2, (2, 0)), (2, 4, (0, 1, 2)), (3, 2, (3, 0, 1, 2)), (5, 2, (0, 1, 5)),
                   (3, 1, (1,)), (7, 1, (7, 6, 5, 4, 3, 2, 1, 0)), (5, 3, (5,))):
        p, k, points = ground
        for _ in range(times_each):
            w = chance.randint(0, 4)
            lengths = [chance.choice((0, 1, 2, 4, 6)) for _ in points]
            missing = 2 * w + k - sum(lengths)
            if missing > 0:
                lengths[chance.randrange(len(points))] += missing
            batch = chance.choice(batches_of(p, k))
            yield ground, torn_rows(chance, ground, batch, lengths, chance.randint(0, w + 4)), w


class Locators(unittest.TestCase):
    def test_against_all_batches(self):
        seen = {}
        for ground, rows, w in some_rows(1, 150):
            right, found = few_torn(ground, rows, w), locator(ground, rows, w)
            self.assertLessEqual(len(right), 1)
            if found is None:
                self.assertEqual(right, [])
                seen["none"] = seen.get("none", 0) + 1
                continue
            E, F = found
            same(self, found, (tuple(E), tuple(F)))
            self.assertTrue(is_locator(ground, rows, w, E, F))
            batch = batch_of(ground, E, F)
            same(self, batch, right[0] if right else None)
            if right:
                same(self, F, times(ground[0], E, batch))
            seen[bool(right)] = seen.get(bool(right), 0) + 1
            same(self, locator(ground, rows, w), found)
        self.assertEqual(len(seen), 3)
        self.assertGreater(min(seen.values()), 50)

    def test_just_2_w_and_k_cells_and_one_fewer(self):
        for ground in (TWO, (2, 3, (2, 0, 1)), (65521, 12, (65521, 0))):
            for w in (0, 1, 5, 24):
                batch = (1,) * ground[1]
                need = 2 * w + ground[1]
                many = len(ground[2])
                lengths = [need // many] * (many - 1) + [need - need // many * (many - 1)]
                rows = tuple(row(ground, batch, shelf, length) for shelf, length in enumerate(lengths))
                E, F = locator(ground, rows, w)
                self.assertEqual((len(E), len(F)), (w + 1, w + ground[1]))
                same(self, batch_of(ground, E, F), batch)
                fewer = rows[:-1] + (rows[-1][:-1],)
                refuses(self, NotSo, 0, locator, ground, fewer, w)

    def test_shelves_without_cells_and_the_far_point(self):
        for points in ((5, 0, 1), (0, 5, 1), (1, 0, 5)):
            ground = (5, 2, points)
            for batch in batches_of(5, 2):
                for empty in range(3):
                    rows = [list(row(ground, batch, shelf, 0 if shelf == empty else 3)) for shelf in range(3)]
                    last = rows[2 if empty != 2 else 1]
                    last[-1] = (last[-1] + 1) % 5
                    last[-2] = (last[-2] + 2) % 5
                    E, F = locator(ground, tuple(map(tuple, rows)), 2)
                    same(self, batch_of(ground, E, F), batch)

    def test_full_rows_and_the_greatest_w(self):
        ground = (65521, 12, (65521, 0, 65520, 1, 2, 3, 4, 5))
        chance = random.Random(2)
        batch = tuple(chance.randrange(65521) for _ in range(12))
        rows = torn_rows(chance, ground, batch, (64,) * 8, 24)
        self.assertTrue(0 < torn_cells(ground, batch, rows) <= 24)
        E, F = locator(ground, rows, 24)
        self.assertTrue(is_locator(ground, rows, 24, E, F))
        same(self, batch_of(ground, E, F), batch)
        noise = tuple(tuple(chance.randrange(65521) for _ in range(64)) for _ in range(8))
        same(self, locator(ground, noise, 24), None)

    def test_one_shelf(self):
        ground, batch = (7, 3, (7,)), (1, 2, 3)
        for w in range(5):
            right = row(ground, batch, 0, 2 * w + 3)
            for cut in range(w + 1):
                rows = (right[:2 * w + 3 - cut] + (5,) * cut,)
                E, F = locator(ground, rows, w)
                same(self, batch_of(ground, E, F), batch)

    def test_errors_in_order(self):
        for ground, what in BAD_GROUNDS:
            refuses(self, BadGround, what, locator, ground, None, 25)
        for rows, what in ((None, -1), (((),), -1), (((), (5,)), 1), (((0,) * 65, ()), 0), ([(), ()], -1)):
            refuses(self, BadRows, what, locator, TWO, rows, 25)
        for w in NO_NUMBERS + (None, -1, 25, 10 ** 40):
            refuses(self, BadNumber, w, locator, TWO, ((), ()), w)
        refuses(self, NotSo, 0, locator, TWO, ((), ()), 0)
        refuses(self, NotSo, 0, locator, TWO, ((0,) * 24, (0,) * 25), 24)

    def test_by_name(self):
        same(self, batch_of(TWO, *locator(w=0, rows=((1,), (2,)), ground=TWO)), (1, 2))


class BatchOf(unittest.TestCase):
    def test_is_the_quotient_of_F_by_E(self):
        chance = random.Random(3)
        seen = set()
        for p in (2, 3, 5, 65521):
            for _ in range(150):
                E = tuple(chance.randrange(p) for _ in range(chance.randint(1, 5)))
                if not any(E):
                    continue
                F = tuple(chance.randrange(p) for _ in range(len(E) + chance.randint(0, 4)))
                if chance.random() < 0.5:
                    F = times(p, E, tuple(chance.randrange(p) for _ in range(chance.randint(1, 5))))
                got = batch_of((p, 3, (0,)), E, F)
                same(self, got, quotient(p, F, E))
                if got is not None:
                    self.assertEqual((len(got), times(p, E, got)), (len(F) - len(E) + 1, F))
                seen.add(got is None)
        self.assertEqual(seen, {True, False})

    def test_errors_in_order(self):
        for ground, what in BAD_GROUNDS:
            refuses(self, BadGround, what, batch_of, ground, (0,), (0,))
        refuses(self, BadForm, 1, batch_of, TWO, (0,), (1, 2))
        refuses(self, BadForm, 1, batch_of, TWO, (0, 0), (0, 0))

    def test_by_name(self):
        same(self, batch_of(F=(3, 4, 1), E=(3, 1), ground=TWO), (1, 1))


class Example(unittest.TestCase):
    def test_of_the_interface(self):
        runs_as_shown(self, """
>>> from firstsafe.locators import batch_of, locator
>>> ground = (5, 2, (0, 1, 2))
>>> E, F = locator(ground, ((1, 1), (2, 1), (3, 4)), 1)
>>> batch_of(ground, E, F)
(1, 1)
>>> batch_of(ground, (3, 1), (3, 4, 1))
(1, 1)
""")


if __name__ == "__main__":
    unittest.main()
