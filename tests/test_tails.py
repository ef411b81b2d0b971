"""Tails without a book ([8] to [8.3])."""

import random
import unittest
from itertools import product

from firstsafe.errors import BadBatch, BadGround, BadLengths, BadNumber, BadRows, TooMany
from firstsafe.rows import row
from firstsafe.tails import made_rows, read_tails, tail_safe, torn, worst
from tests.helper import (
    NO_NUMBERS, STRANGE, batches_of, few_torn, lengths_of, nested, refuses, runs_as_shown, same, spoiled, torn_cells,
    torn_rows)

TWO = (5, 2, (0, 5))
THREE = (5, 2, (0, 1, 2))
BAD_GROUNDS = ((None, -1), ((4, 1, (0,)), 0), ((5, 0, (0,)), 1), ((5, 1, (0, 0)), 2))


class Rows(unittest.TestCase):
    def test_rows_are_returned(self):
        for rows in (((), ()), ((1, 2), (0,)), ((4,) * 64, (0,) * 64), ((), (3,) * 64)):
            same(self, made_rows(TWO, rows), rows)

    def test_64_and_65_numbers(self):
        same(self, made_rows(TWO, ((1,), (0,) * 64)), ((1,), (0,) * 64))
        refuses(self, BadRows, 1, made_rows, TWO, ((1,), (0,) * 65))
        refuses(self, BadRows, 0, made_rows, TWO, ((0,) * 65, (0,) * 65))

    def test_others_are_refused_at_their_first_bad_shelf(self):
        for thing, what in ((None, -1), ((), -1), (((),), -1), (((),) * 3, -1), ([(), ()], -1), (0, -1), ("ab", -1),
                            (([], ()), 0), (((), None), 1), (((5,), (5,)), 0), (((4,), (-1,)), 1), (((), (True,)), 1),
                            (((0, 1, None), ()), 0), (((0,), "0"), 1), ((0, 0), 0), (((), ((0,),)), 1), ((nested(19), ()), 0)):
            refuses(self, BadRows, what, made_rows, TWO, thing)

    def test_strange_things_are_refused(self):
        for thing in STRANGE + tuple(spoiled(((1, 2), (0,)))):
            with self.assertRaises(BadRows):
                made_rows(TWO, thing)

    def test_the_ground_comes_first(self):
        for ground, what in BAD_GROUNDS:
            refuses(self, BadGround, what, made_rows, ground, None)

    def test_by_name(self):
        same(self, made_rows(thing=((), ()), ground=TWO), ((), ()))


class Torn(unittest.TestCase):
    def test_no_cell_torn(self):
        for batch in batches_of(5, 2):
            for lengths in ((0, 0, 0), (1, 2, 3), (64, 0, 2)):
                rows = tuple(row(THREE, batch, shelf, length) for shelf, length in enumerate(lengths))
                same(self, torn(THREE, batch, rows), 0)

    def test_the_first_cell_torn(self):
        same(self, torn(THREE, (1, 2), ((0, 2, 0, 0), (), ())), 4)
        same(self, torn(THREE, (1, 2), ((0,), (3, 2), ())), 1)
        same(self, torn(THREE, (1, 2), ((4,) * 64, (4,) * 64, (4,) * 64)), 192)

    def test_cells_behind_a_torn_one_that_do_not_differ(self):
        same(self, torn(THREE, (1, 2), ((1, 3, 0, 0, 0), (3, 2, 1, 0), (0, 2))), 4 + 2 + 0)
        same(self, torn(THREE, (1, 2), ((1, 2, 0, 1, 0), (), ())), 2)
        same(self, torn(THREE, (1, 2), ((1, 2, 0, 0, 1), (), ())), 1)

    def test_by_chance(self):
        chance = random.Random(1)
        seen = set()
        for ground in (TWO, THREE, (2, 3, (2, 0)), (3, 4, (1, 3, 0))):
            for _ in range(100):
                batch = chance.choice(batches_of(ground[0], ground[1]))
                lengths = [chance.randint(0, 6) for _ in ground[2]]
                rows = torn_rows(chance, ground, batch, lengths, chance.randint(0, 6))
                got = torn(ground, batch, rows)
                same(self, got, torn_cells(ground, batch, rows))
                seen.add(got)
        self.assertTrue(set(range(7)) <= seen)

    def test_errors_in_order(self):
        for ground, what in BAD_GROUNDS:
            refuses(self, BadGround, what, torn, ground, None, None)
        for batch, what in ((None, -1), ((1,), -1), ((1, 5), 1), ((True, 1), 0), ([1, 1], -1)):
            refuses(self, BadBatch, what, torn, TWO, batch, None)
        for rows, what in ((None, -1), (((),), -1), (((), (5,)), 1), (((0,) * 65, ()), 0)):
            refuses(self, BadRows, what, torn, TWO, (1, 1), rows)

    def test_by_name(self):
        same(self, torn(rows=((1,), (0,)), batch=(1, 1), ground=TWO), 1)


class Worst(unittest.TestCase):
    def test_against_all_divisions(self):
        chance = random.Random(2)
        for _ in range(200):
            many = chance.randint(1, 8)
            lengths = tuple(chance.choice((0, 1, 2, 5, 9, 30, 1024)) for _ in range(many))
            for w in (0, 1, 2, 4, 5, 7, 23, 24):
                sums = []
                for group in product((True, False), repeat=many):
                    first = sum(length for length, chosen in zip(lengths, group) if chosen)
                    sums.append(min(first, w) + min(sum(lengths) - first, w))
                ground = (7, 3, tuple(range(many)))
                same(self, worst(ground, lengths, w), max(sums))
                same(self, tail_safe(ground, lengths, w), sum(lengths) - max(sums) >= 3)

    def test_one_shelf_and_no_cells(self):
        same(self, worst((5, 1, (0,)), (1024,), 24), 24)
        same(self, worst((5, 1, (0,)), (23,), 24), 23)
        same(self, worst(TWO, (1024, 1024), 24), 48)
        same(self, (worst(TWO, (0, 0), 24), tail_safe(TWO, (0, 0), 0)), (0, False))
        same(self, (tail_safe(TWO, (1, 0), 0), tail_safe(TWO, (1, 1), 0), tail_safe(TWO, (2, 0), 0)), (False, True, True))

    def test_errors_in_order(self):
        for call in (worst, tail_safe):
            for ground, what in BAD_GROUNDS:
                refuses(self, BadGround, what, call, ground, None, 25)
            for lengths, what in ((None, -1), ((1,), -1), ((1, 1025), 1), ((True, 0), 0), ([0, 0], -1), ((0, -1), 1)):
                refuses(self, BadLengths, what, call, TWO, lengths, 25)
            for w in NO_NUMBERS + (None, -1, 25, 10 ** 40):
                refuses(self, BadNumber, w, call, TWO, (1, 1), w)
            for w in (0, 4, 5, 24):
                call(TWO, (1024, 1024), w)

    def test_by_name(self):
        same(self, worst(w=1, lengths=(1, 1), ground=TWO), 2)
        same(self, tail_safe(w=0, lengths=(1, 1), ground=TWO), True)


class TailSafe(unittest.TestCase):
    """On tiny grounds against all rows and all batches."""

    def check(self, ground, most, bounds):
        seen = set()
        for total in range(most + 1):
            for lengths in lengths_of(len(ground[2]), total):
                torn_by_batch = []
                for rows in product(*[list(product(range(ground[0]), repeat=length)) for length in lengths]):
                    torn_by_batch.append(sorted(torn_cells(ground, batch, rows)
                                                for batch in batches_of(ground[0], ground[1]))[1])
                for w in bounds:
                    wanted = min(torn_by_batch) > w
                    same(self, tail_safe(ground, lengths, w), wanted)
                    seen.add(wanted)
        self.assertEqual(seen, {True, False})

    def test_tiny_grounds(self):
        self.check((2, 1, (0, 1, 2)), 7, (0, 1, 2, 3, 24))
        self.check((2, 2, (2, 0)), 7, (0, 1, 2, 3))
        self.check((2, 3, (0, 1)), 6, (0, 1, 2))
        self.check((3, 1, (1, 3)), 5, (0, 1, 2))
        self.check((2, 1, (0,)), 7, (0, 1, 2, 3))


class ReadTails(unittest.TestCase):
    def check(self, ground, rows, w):
        """The answer is that of the list of all batches; its first word."""
        right, got = few_torn(ground, rows, w), read_tails(ground, rows, w)
        if not right:
            same(self, got, ("none",))
        elif len(right) == 1:
            same(self, got, ("told", right[0]))
        else:
            word, one, two = got
            self.assertEqual(word, "open")
            self.assertNotEqual(one, two)
            for batch in (one, two):
                self.assertIn(batch, right)
                self.assertTrue(all(type(number) is int for number in batch))
        return got[0]

    def test_tiny_grounds(self):
        chance = random.Random(3)
        seen = {}
        for ground in ((2, 1, (0, 1, 2)), (2, 2, (2, 0)), (2, 3, (0, 1, 2)), (3, 2, (3, 0, 1, 2)), (5, 2, (0, 1, 5)),
                       (3, 1, (1,)), (7, 1, (7, 6, 5, 4, 3, 2, 1, 0)), (2, 5, (1, 2))):
            p, k, points = ground
            for _ in range(120):
                lengths = [chance.randint(0, 6) for _ in points]
                rows = torn_rows(chance, ground, chance.choice(batches_of(p, k)), lengths, chance.randint(0, 6))
                for w in range(8):
                    room = 2 * w + k <= sum(lengths)
                    if w > 4 and not room:
                        refuses(self, TooMany, w, read_tails, ground, rows, w)
                    else:
                        word = self.check(ground, rows, w)
                        seen[room, word] = seen.get((room, word), 0) + 1
        self.assertEqual(sorted(seen), [(False, "none"), (False, "open"), (False, "told"), (True, "none"), (True, "told")])
        self.assertGreater(min(seen.values()), 20)

    def test_no_cells(self):
        for w in range(5):
            self.assertEqual(self.check(TWO, ((), ()), w), "open")
        refuses(self, TooMany, 5, read_tails, TWO, ((), ()), 5)

    def test_bounds(self):
        chance = random.Random(4)
        ground = (251, 3, (0, 251, 7))
        batch = (250, 0, 17)
        for w in (0, 4, 5, 24):
            for total in (2 * w + 2, 2 * w + 3, 2 * w + 4):
                lengths = (total // 3, total // 3, total - total // 3 * 2)
                rows = tuple(row(ground, batch, shelf, length) for shelf, length in enumerate(lengths))
                if w > 4 and total < 2 * w + 3:
                    refuses(self, TooMany, w, read_tails, ground, rows, w)
                    continue
                # Other batches agree with at most two of these cells.
                same(self, read_tails(ground, rows, w)[0], "told" if total - w >= 3 else "open")
                cut = min(w, lengths[1])
                bent = tuple(chance.randrange(251) for _ in range(cut))
                torn_there = rows[:1] + (rows[1][:lengths[1] - cut] + bent,) + rows[2:]
                if total >= 2 * w + 3:
                    same(self, read_tails(ground, torn_there, w), ("told", batch))
        for w in NO_NUMBERS + (None, -1, 25, 10 ** 40):
            refuses(self, BadNumber, w, read_tails, ground, ((), (), ()), w)

    def test_one_cell_more_than_allowed(self):
        ground, batch = (251, 3, (0, 251, 7)), (250, 0, 17)
        for w in (1, 4, 5, 24):
            rows = [list(row(ground, batch, shelf, 40)) for shelf in range(3)]
            rows[1][40 - w] += 1
            same(self, read_tails(ground, tuple(map(tuple, rows)), w), ("told", batch))
            same(self, read_tails(ground, tuple(map(tuple, rows)), w - 1), ("none",))

    def test_w_4_with_few_cells_on_8_shelves(self):
        ground = (65521, 12, (65521, 0, 65520, 1, 2, 3, 4, 5))
        batch = tuple(range(1, 13))
        for length, word in ((1, "open"), (2, "told")):
            rows = tuple(row(ground, batch, shelf, length) for shelf in range(8))
            got = read_tails(ground, rows, 4)
            self.assertEqual(got[0], word)
            for one in got[1:]:
                self.assertLessEqual(torn_cells(ground, one, rows), 4)
            refuses(self, TooMany, 5, read_tails, ground, rows, 5)
        bent = tuple((first, second + 1) for first, second in rows[:4]) + rows[4:]
        word, one, two = read_tails(ground, bent, 4)
        self.assertNotEqual(one, two)
        for other in (one, two, batch):
            self.assertLessEqual(torn_cells(ground, other, bent), 4)
        rows = tuple(row(ground, batch, shelf, 3) for shelf in range(8))
        same(self, read_tails(ground, rows, 4), ("told", batch))

    def test_full_rows(self):
        ground = (65521, 12, (65521, 0, 65520, 1, 2, 3, 4, 5))
        chance = random.Random(5)
        batch = tuple(chance.randrange(65521) for _ in range(12))
        rows = torn_rows(chance, ground, batch, (64,) * 8, 24)
        self.assertTrue(0 < torn_cells(ground, batch, rows) <= 24)
        same(self, read_tails(ground, rows, 24), ("told", batch))

    def test_errors_in_order(self):
        for ground, what in BAD_GROUNDS:
            refuses(self, BadGround, what, read_tails, ground, None, 25)
        for rows, what in ((None, -1), (((),), -1), (((), (5,)), 1), (((0,) * 65, ()), 0)):
            refuses(self, BadRows, what, read_tails, TWO, rows, 25)
        refuses(self, BadNumber, 25, read_tails, TWO, ((), ()), 25)
        refuses(self, TooMany, 24, read_tails, TWO, ((), ()), 24)

    def test_by_name(self):
        same(self, read_tails(w=0, rows=((1,), (2,)), ground=TWO), ("told", (1, 2)))


class Example(unittest.TestCase):
    def test_of_the_interface(self):
        runs_as_shown(self, """
>>> from firstsafe.tails import read_tails, tail_safe, torn, worst
>>> ground = (5, 2, (0, 1, 2))
>>> rows = ((1, 1), (2, 1), (3, 4))
>>> torn(ground, (1, 1), rows)
1
>>> (worst(ground, (2, 2, 2), 1), tail_safe(ground, (2, 2, 2), 1))
(2, True)
>>> read_tails(ground, rows, 1)
('told', (1, 1))
>>> (worst((5, 1, (0,)), (3,), 2), tail_safe((5, 1, (0,)), (3,), 2))
(2, True)
""")


if __name__ == "__main__":
    unittest.main()
