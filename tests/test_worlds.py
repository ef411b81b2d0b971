"""Doubts ([6.5], [0.3](b))."""

import random
import unittest

from firstsafe.bookwords import read_book
from firstsafe.errors import BadBook, BadGround, BadNumber, BadTold, BadWeaving, TooMany
from firstsafe.safety import safe, sums
from firstsafe.worlds import doubt, why
from tests.helper import (
    FINE, NO_NUMBERS, TOLD, check_doubt, plain_sums, refuses, runs_as_shown, same, some_cases)

ALL, WRONG = (None, 0), (0, None)


class Doubts(unittest.TestCase):
    def check(self, ground, book, told, weaving, b):
        """A doubt exactly if the batch is not safe, and `why` agrees; True if there is one."""
        entries = plain_sums(book, told, weaving, b)
        is_safe = min(map(min, entries)) >= ground[1]
        same(self, safe(ground, book, told, weaving, b), is_safe)
        found = doubt(ground, book, told, weaving, b)
        if is_safe:
            same(self, found, None)
            same(self, why(ground, book, told, weaving, b), ("safe", entries))
            return False
        check_doubt(self, ground, book, told, weaving, b, found)
        same(self, doubt(ground, book, told, weaving, b), found)
        word, other = why(ground, book, told, weaving, b)
        same(self, word, "doubt")
        check_doubt(self, ground, book, told, weaving, b, other)
        return True

    def test_by_chance(self):
        seen = {}
        for ground, book, told, weaving in some_cases(11, 1200):
            for b in (0, 1, 7, 63):
                answer = self.check(ground, book, told, weaving, b)
                seen[told, answer] = seen.get((told, answer), 0) + 1
        self.assertEqual(len(seen), 4)
        self.assertGreater(min(seen.values()), 50)

    def test_small_and_large_primes(self):
        chance = random.Random(12)
        for ground in ((2, 1, (0, 1, 2)), (2, 12, (2, 1)), (3, 5, (3, 0, 1, 2)), (65521, 12, (65521, 0, 65520, 7)),
                       (7, 4, (6,)), (7, 6, tuple(range(8)))):
            many = len(ground[2])
            for _ in range(60):
                book = tuple(tuple((chance.choice((0, 0, 1, None)), chance.choice((0, 0, 2, None)))
                                   for _ in range(many)) for _ in range(chance.randint(1, 3)))
                weaving = tuple(tuple(chance.choice((0, 0, 0, 5)) for _ in range(chance.randint(0, ground[1] + 4)))
                                for _ in range(many))
                for told in TOLD:
                    self.check(ground, book, told, weaving, 0)

    def test_fates_without_a_bound(self):
        ground = (5, 2, (0, 5))
        for told in TOLD:
            for weaving in (((0,) * 6, (0,) * 6), ((0, 1, 0, 0), ()), ((), ())):
                for book, always in ((((ALL, ALL),), True), (((WRONG, WRONG),), True), (((ALL, WRONG),), True),
                                     (((ALL, FINE), (FINE, ALL)), False), (((WRONG, FINE), (FINE, WRONG)), True),
                                     (((ALL, FINE), (FINE, WRONG)), False), ((((None, None), (None, None)),), True),
                                     ((((3, None), (None, 2)),), True), ((((None, 2), (64, 0)), (FINE, FINE)), False)):
                    answer = self.check(ground, book, told, weaving, 0)
                    self.assertTrue(answer or not always)

    def test_tapes_that_are_shorter_than_their_fates(self):
        ground = (5, 2, (0, 1))
        for told in TOLD:
            for fate in ((1, 0), (0, 1), (64, 0), (0, 64), (64, 64), (1, 1), (2, 3)):
                for weaving in (((), ()), ((0,), ()), ((0, 0), (0,)), ((0, 1), (1, 0)), ((1,), (1,))):
                    self.check(ground, ((fate, fate),), told, weaving, 0)
                    self.check(ground, ((fate, FINE), (FINE, fate)), told, weaving, 0)

    def test_cells_at_places_from_k_on(self):
        for told in TOLD:
            # The first shelf has all of its cells in every head, but the second one has to help.
            for weaving in (((0,) * 5, (0,) * 5), ((0,) * 9, ()), ((0,) * 3 + (1,) + (0,) * 4, (0,))):
                for book in (((ALL, FINE), (FINE, ALL)), (((8, 0), (8, 0)),), (((0, 7), (0, 7)),), (((1, 3), (2, 1)),)):
                    self.check((5, 3, (0, 5)), book, told, weaving, 0)

    def test_cells_of_other_batches_between(self):
        ground, book = (5, 2, (0, 1)), (((1, 1), (0, 0)), ((0, 2), (1, 0)))
        seen = set()
        for told in TOLD:
            for weaving in (((0, 1, 0, 1, 0, 1), (1, 1, 0)), ((1, 1, 1, 0), (0, 63, 63, 63)), ((9, 9, 9), (9, 9)),
                            ((0, 9, 9, 9, 9), (0, 9, 9, 9))):
                for b in (0, 1, 9, 63, 5):
                    seen.add(self.check(ground, book, told, weaving, b))
        self.assertEqual(seen, {True, False})

    def test_both_worlds_may_have_to_show_their_cells(self):
        """The rows differ in which world shows the cells behind the common head."""
        ground = (5, 2, (0, 1, 5))
        book = (((0, 3), (0, 0), (0, 1)), ((0, 1), (0, 2), (0, 1)))
        for told in TOLD:
            self.assertTrue(self.check(ground, book, told, ((0,) * 3, (0, 0), (0,)), 0))
            self.assertTrue(self.check(ground, book[::-1], told, ((0,) * 3, (0, 0), (0,)), 0))

    def test_the_other_weaving_may_be_another_one_only_if_it_is_not_told(self):
        """A batch that is safe only if the weaving is told: the second world is written on less."""
        ground, book, weaving = (2, 1, (0,)), (((1, 0),), ((0, 1),)), ((0, 0),)
        same(self, doubt(ground, book, True, weaving, 0), None)
        self.assertTrue(self.check(ground, book, False, weaving, 0))

    def test_24_rows_8_shelves_and_full_tapes(self):
        ground = (7, 5, tuple(range(8)))
        book = tuple(((n, 24 - n),) * 8 for n in range(24))
        for weaving in (((0,) * 1024,) * 8, (((1,) * 1000 + (0,) * 24),) * 8, ((5,) * 1024,) * 7 + ((0,) * 4,)):
            for told in TOLD:
                self.check(ground, book, told, weaving, 0)
        lose = read_book(("a", "b", "c", "d", "e", "f", "g", "h"), "lose any 3 of a b c d e f")
        for told in TOLD:
            self.assertTrue(self.check((7, 5, tuple(range(8))), lose, told, ((0,),) * 7 + ((),), 0))
            self.assertFalse(self.check((7, 5, tuple(range(8))), lose, told, ((0,),) * 8, 0))

    def test_batches_without_a_cell(self):
        for told in TOLD:
            for b in (0, 63):
                self.assertTrue(self.check((2, 1, (0,)), ((FINE,),), told, ((),), b))
                self.assertTrue(self.check((5, 12, (0, 5)), ((FINE, FINE),), told, ((1,) * 20, (1,) * 3), b))

    def test_the_example_of_6_2(self):
        ground, book = (3, 2, (0, 1, 2, 3)), read_book(("a", "b", "c", "d"), "lose any 1")
        for told in TOLD:
            self.assertFalse(self.check(ground, book, told, ((0,), (0,), (0,), ()), 0))
            self.assertTrue(self.check(ground, book, told, ((0, 0), (0,), (), ()), 0))


class Errors(unittest.TestCase):
    def test_in_order(self):
        ground, book, weaving = (5, 1, (0, 1)), ((FINE, FINE),), ((0,), ())
        for call in (doubt, why):
            for wrong, what in ((None, -1), ((4, 1, (0,)), 0), ((5, 0, (0,)), 1), ((5, 1, (0, 0)), 2)):
                refuses(self, BadGround, what, call, wrong, None, None, None, 64)
            for wrong, what in ((None, -1), ((), -1), (((FINE,),), 0), (((FINE, FINE), ((65, 0), FINE)), 1)):
                refuses(self, BadBook, what, call, ground, wrong, None, None, 64)
            refuses(self, TooMany, 25, call, ground, book * 25, None, None, 64)
            for told in (None, 0, 1, "True", (), (True,), 2):
                refuses(self, BadTold, told, call, ground, book, told, None, 64)
            for wrong, what in ((None, -1), ((), -1), (((0,),), -1), (((0,), (64,)), 1), (((0,) * 1025, ()), 0)):
                refuses(self, BadWeaving, what, call, ground, book, False, wrong, 64)
            for b in NO_NUMBERS + (None, 64, -1, 10 ** 40):
                refuses(self, BadNumber, b, call, ground, book, True, weaving, b)

    def test_by_name(self):
        ground, book, weaving = (5, 1, (0, 1)), ((FINE, FINE),), ((0,), ())
        same(self, doubt(b=0, weaving=weaving, told=True, book=book, ground=ground), None)
        same(self, why(b=0, weaving=weaving, told=True, book=book, ground=ground),
             ("safe", sums(ground, book, True, weaving, 0)))


class Example(unittest.TestCase):
    def test_of_the_interface(self):
        runs_as_shown(self, """
>>> from firstsafe.worlds import doubt, why
>>> ground = (3, 1, (0, 1))
>>> book = (((None, 0), (0, 0)), ((0, 0), (None, 0)))
>>> doubt(ground, book, False, ((0,), (0,)), 0) is None
True
>>> why(ground, book, False, ((0,), (0,)), 0)
('safe', ((1, 1), (1, 1)))
""")


if __name__ == "__main__":
    unittest.main()
