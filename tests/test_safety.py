"""Safe batches and their sums ([6] to [6.4])."""

import random
import unittest
from itertools import product

from firstsafe.bookwords import read_book
from firstsafe.errors import BadBook, BadGround, BadNumber, BadTold, BadWeaving, TooMany
from firstsafe.safety import bearable, done, safe, sums
from tests.helper import (
    FINE, NO_NUMBERS, TOLD, batches_of, left, left_of_any, plain_sums, refuses, runs_as_shown, same, some_cases)


class Sums(unittest.TestCase):
    def test_by_chance(self):
        for ground, book, told, weaving in some_cases(1, 400):
            for b in (0, 1, 2, 63):
                wanted = plain_sums(book, told, weaving, b)
                same(self, sums(ground, book, told, weaving, b), wanted)
                same(self, safe(ground, book, told, weaving, b), min(map(min, wanted)) >= ground[1])
            wanted = tuple(b for b in range(64) if min(map(min, plain_sums(book, told, weaving, b))) >= ground[1])
            same(self, done(ground, book, told, weaving), wanted)

    def test_gone_cells_by_told(self):
        ground, weaving = (5, 1, (0,)), ((0,) * 10,)
        book = (((3, 0),), ((5, 0),), ((None, 0),))
        same(self, sums(ground, book, False, weaving, 0), ((7, 7, 7), (5, 5, 5), (0, 0, 0)))
        same(self, sums(ground, book, True, weaving, 0), ((7, 7, 7), (7, 5, 5), (7, 5, 0)))

    def test_wrong_cells_by_told(self):
        ground, weaving = (5, 1, (0,)), ((0,) * 10,)
        book = (((0, 3),), ((0, 5),), ((0, None),))
        for told in TOLD:
            same(self, sums(ground, book, told, weaving, 0), ((7, 5, 0), (5, 5, 0), (0, 0, 0)))

    def test_both_orders_of_a_pair(self):
        ground, weaving = (5, 1, (0, 1)), ((0,) * 9, (0,) * 9)
        book = (((1, 2), (None, 0)), ((4, 0), (2, 1)))
        same(self, sums(ground, book, False, weaving, 0), ((6, 6), (3 + 6, 5 + 6)))
        same(self, sums(ground, book, True, weaving, 0), ((6, 6 + 6), (6 + 6, 5 + 6)))

    def test_empty_heads(self):
        ground = (5, 2, (0, 1))
        for told in TOLD:
            same(self, sums(ground, (((4, 0), (2, 2)),), told, ((0,) * 4, (0,) * 4), 0), ((0,),))
            same(self, sums(ground, (((64, 64), (2, 3)),), told, ((0,) * 4, (0,) * 4), 0), ((0,),))
            same(self, sums(ground, (((2, 1), (1, 2)),), told, ((0,) * 4, (0,) * 4), 0), ((2,),))
            same(self, sums(ground, ((FINE, FINE),), told, ((), ()), 0), ((0,),))

    def test_cells_of_other_batches_between_and_behind(self):
        ground, book = (5, 2, (0,)), (((1, 1),),)
        for told in TOLD:
            same(self, sums(ground, book, told, ((0, 7, 0, 0),), 0), ((1,),))
            same(self, sums(ground, book, told, ((0, 7, 0, 0, 7),), 0), ((2,),))
            same(self, sums(ground, book, told, ((0, 7, 0, 0, 7, 7),), 0), ((3,),))
            same(self, safe(ground, book, told, ((0, 0, 7),), 0), False)
            same(self, safe(ground, book, told, ((0, 0, 7, 8),), 0), True)

    def test_cells_from_k_on_count_like_all_others(self):
        for told in TOLD:
            same(self, sums((5, 2, (0, 1)), (((None, 0), FINE), (FINE, (None, 0))), told,
                            ((0,) * 9, (0,) * 3), 0), ((3, 12 if told else 3), (12 if told else 9, 9)))
            same(self, safe((5, 3, (0, 1)), ((FINE, (None, 0)),), told, ((0,) * 3, ()), 0), True)
            same(self, sums((5, 1, (0,)), ((FINE,),), told, ((0,) * 1024,), 0), ((1024,),))

    def test_24_rows_and_1024_cells(self):
        ground = (7, 3, tuple(range(8)))
        book = tuple(((n, 24 - n),) + ((None, 0),) * 7 for n in range(24))
        weaving = (tuple(range(64)) * 16,) + ((5,) * 1024,) * 7
        for told in TOLD:
            got = sums(ground, book, told, weaving, 5)
            same(self, got, plain_sums(book, told, weaving, 5))
            self.assertEqual((len(got), {len(entries) for entries in got}), (24, {24}))
            same(self, done(ground, book, told, weaving), tuple(range(64)))

    def test_batch_numbers(self):
        args = ((5, 1, (0,)), ((FINE,),), False, ((63, 0),))
        same(self, (sums(*args, 63), safe(*args, 63), safe(*args, 62)), (((1,),), True, False))
        same(self, done(*args), (0, 63))
        for call in (sums, safe):
            for b in NO_NUMBERS + (None, 64, -1, 10 ** 40):
                refuses(self, BadNumber, b, call, *args, b)

    def test_the_example_of_6_2(self):
        ground, book = (3, 2, (0, 1, 2, 3)), read_book(("a", "b", "c", "d"), "lose any 1")
        self.assertEqual(len(book), 4)
        for told in TOLD:
            got = sums(ground, book, told, ((0,), (0,), (0,), ()), 0)
            self.assertTrue(min(map(min, got)) >= 2)
            same(self, safe(ground, book, told, ((0,), (0,), (0,), ()), 0), True)
            got = sums(ground, book, told, ((0, 0), (0,), (), ()), 0)
            self.assertEqual(got[0][0], 1)
            same(self, safe(ground, book, told, ((0, 0), (0,), (), ()), 0), False)


class Errors(unittest.TestCase):
    GROUND, BOOK, WEAVING = (5, 1, (0, 1)), ((FINE, FINE),), ((0,), ())

    def check(self, what, error, *arguments):
        """All four functions, as far as they have the arguments."""
        ground, book, told, weaving, b = arguments
        refuses(self, error, what, sums, ground, book, told, weaving, b)
        refuses(self, error, what, safe, ground, book, told, weaving, b)
        if error is not BadNumber:
            refuses(self, error, what, done, ground, book, told, weaving)
            if error is not BadWeaving:
                refuses(self, error, what, bearable, ground, book, told)

    def test_in_order(self):
        ground, book, weaving = self.GROUND, self.BOOK, self.WEAVING
        for wrong, what in ((None, -1), ((4, 1, (0,)), 0), ((5, 0, (0,)), 1), ((5, 1, (0, 0)), 2), ([5, 1, (0,)], -1)):
            self.check(what, BadGround, wrong, None, None, None, 64)
        for wrong, what in ((None, -1), ((), -1), (((FINE,),), 0), (((FINE, FINE), ((65, 0), FINE)), 1)):
            self.check(what, BadBook, ground, wrong, None, None, 64)
        self.check(25, TooMany, ground, book * 25, None, None, 64)
        for told in (None, 0, 1, "True", (), (True,), [], 2):
            self.check(told, BadTold, ground, book, told, None, 64)
        for told in TOLD:
            for wrong, what in ((None, -1), ((), -1), (((0,),), -1), (((0,), (64,)), 1), (((True,), ()), 0)):
                self.check(what, BadWeaving, ground, book, told, wrong, 64)
            for b in (64, -1, None, True):
                self.check(b, BadNumber, ground, book, told, weaving, b)

    def test_by_name(self):
        ground, book, weaving = self.GROUND, self.BOOK, self.WEAVING
        same(self, sums(b=0, weaving=weaving, told=True, book=book, ground=ground), ((1,),))
        same(self, safe(b=0, weaving=weaving, told=True, book=book, ground=ground), True)
        same(self, done(weaving=weaving, told=True, book=book, ground=ground), (0,))
        same(self, bearable(told=True, book=book, ground=ground), True)


class Growing(unittest.TestCase):
    """[6.3]: what `told` and more cells do."""

    def test_safe_without_being_told_is_safe_with_it(self):
        seen = {}
        for ground, book, _, weaving in some_cases(2, 1500):
            for b in (0, 1):
                untold, told = [safe(ground, book, told, weaving, b) for told in TOLD]
                seen[untold, told] = True
                self.assertTrue(told or not untold)
        self.assertEqual(sorted(seen), [(False, False), (False, True), (True, True)])

    def test_no_entry_becomes_less(self):
        chance = random.Random(3)
        for ground, book, told, weaving in some_cases(4, 300):
            longer = tuple(tape + tuple(chance.choice((0, 7)) for _ in range(chance.randint(0, 4))) for tape in weaving)
            for b in (0, 7):
                before = sums(ground, book, told, weaving, b)
                after = sums(ground, book, told, longer, b)
                self.assertTrue(all(x <= y for xs, ys in zip(before, after) for x, y in zip(xs, ys)))
            earlier = done(ground, book, told, weaving)
            self.assertTrue(set(earlier) <= set(done(ground, book, told, longer)))

    def test_safe_by_cells_of_other_batches_behind(self):
        ground, book = (5, 2, (0, 1)), (((2, 0), FINE), (FINE, (0, 2)))
        before = ((0,), (0,))
        for told in TOLD:
            same(self, safe(ground, book, told, before, 0), False)
            same(self, safe(ground, book, told, ((0, 1, 2), (0, 3, 4)), 0), True)


class Bearable(unittest.TestCase):
    """[6.4]"""

    def test_small_books(self):
        ground = (5, 2, (0, 1))
        x, w = (None, 0), (0, None)
        for book, untold, told in (
                (((FINE, FINE),), True, True), (((x, FINE), (FINE, x)), True, True), (((x, x),), False, False),
                (((w, FINE), (FINE, w)), False, False), (((w, FINE),), True, True),
                (((x, FINE), (FINE, w)), False, True), (((x, x), (FINE, FINE)), False, False),
                (((x, (64, 64)),), True, True), (((x, w),), False, False), (((w, x),), False, False),
                (((w, (64, 64)), (FINE, x)), False, True), ((((None, None), FINE),), True, True)):
            same(self, bearable(ground, book, False), untold)
            same(self, bearable(ground, book, True), told)

    def test_lose_any_1_of_one_and_of_two(self):
        for told in TOLD:
            same(self, bearable((5, 2, (0,)), read_book(("a",), "lose any 1"), told), False)
            same(self, bearable((5, 2, (0, 1)), read_book(("a", "b"), "lose any 1"), told), True)
            same(self, bearable((5, 2, (0, 1)), read_book(("a", "b"), "turn any 1"), told), False)
            same(self, bearable((5, 2, (0, 1, 5)), read_book(("a", "b", "c"), "turn any 1"), told), True)

    def test_what_becomes_safe(self):
        seen = {True: 0, False: 0}
        for ground, book, told, _ in some_cases(5, 400):
            k, many = ground[1], len(ground[2])
            written = ((0,) * k + (1, 2) * 64,) * many
            answer = bearable(ground, book, told)
            seen[answer] += 1
            same(self, safe(ground, book, told, written, 0), answer)
            if not answer:
                same(self, done(ground, book, told, ((0,) * 1024,) * many), ())
        self.assertGreater(min(seen.values()), 50)

    def test_128_more_cells_are_needed_at_the_worst(self):
        ground, book = (5, 3, (0,)), (((64, 64),),)
        for told in TOLD:
            same(self, safe(ground, book, told, ((0,) * 3 + (1,) * 128,), 0), True)
            same(self, safe(ground, book, told, ((0,) * 3 + (1,) * 127,), 0), False)


class Worlds(unittest.TestCase):
    """[6.3]: safe exactly if no reading that the book allows is left by worlds with unlike batches.

    All worlds of tiny grounds are tried: batches 0 and 1, and stops and weavings that a row allows.
    """

    def told_apart(self, ground, book, told, weaving, b):
        """True if no reading is left by two worlds with unlike batches b."""
        worlds = list(product(batches_of(ground[0], ground[1]), repeat=2))
        for (one, two), (batches, others) in product(product(book, repeat=2), product(worlds, repeat=2)):
            if batches[b] == others[b]:
                continue
            for shelf, tape in enumerate(weaving):
                first = left(ground, shelf, batches, tape, one[shelf])
                if told:
                    second = left(ground, shelf, others, tape, two[shelf])
                else:
                    second = left_of_any(ground, shelf, others, two[shelf], len(tape) + (two[shelf][0] or 0))
                if not first & second:
                    break
            else:
                return False
        return True

    def check(self, ground, fates, longest, times, seed):
        chance = random.Random(seed)
        seen = {}
        for _ in range(times):
            many = len(ground[2])
            book = tuple(tuple(chance.choice(fates) for _ in range(many)) for _ in range(chance.randint(1, 2)))
            weaving = tuple(tuple(chance.choice((0, 0, 1)) for _ in range(chance.randint(0, longest)))
                            for _ in range(many))
            for told in TOLD:
                wanted = self.told_apart(ground, book, told, weaving, 0)
                seen[told, wanted] = True
                same(self, safe(ground, book, told, weaving, 0), wanted)
        self.assertEqual(len(seen), 4)

    def test_batches_of_one_number(self):
        self.check((2, 1, (0, 2)), (FINE, (1, 0), (0, 1), (None, 0), (1, 1)), 3, 150, 1)
        self.check((3, 1, (1, 3)), (FINE, FINE, (2, 0), (0, 1), (0, None)), 2, 100, 2)

    def test_batches_of_two_numbers(self):
        self.check((2, 2, (0, 1, 2)), (FINE, FINE, (1, 0), (0, 1), (None, 0)), 2, 60, 3)
        self.check((2, 2, (1, 2)), (FINE, FINE, FINE, (1, 0), (0, 1)), 3, 60, 4)


class Example(unittest.TestCase):
    def test_of_the_interface(self):
        runs_as_shown(self, """
>>> from firstsafe.safety import safe, sums
>>> ground = (2, 1, (0,))
>>> book = (((1, 0),), ((0, 1),))
>>> sums(ground, book, False, ((0, 0),), 0)
((1, 0), (1, 1))
>>> sums(ground, book, True, ((0, 0),), 0)
((1, 1), (1, 1))
>>> (safe(ground, book, False, ((0, 0),), 0), safe(ground, book, True, ((0, 0),), 0))
(False, True)
""")


if __name__ == "__main__":
    unittest.main()
