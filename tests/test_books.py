"""Books of faults ([4])."""

import random
import unittest
from itertools import product

from firstsafe.books import allows, is_book, lean, made_book, same_books
from firstsafe.errors import BadBook, BadMany, TooMany
from tests.helper import NO_NUMBERS, STRANGE, nested, refuses, runs_as_shown, same, spoiled

FINE = (0, 0)
BOUNDS = (0, 1, 2, 64, None)


def high(bound):
    """The bound as a number that may be compared."""
    return 10 ** 6 if bound is None else bound


def within(one, two):
    """True if each bound of the first row is at most that of the second one."""
    return all(high(a) <= high(b) for fate, other in zip(one, two) for a, b in zip(fate, other))


def some_books(seed, many, times):
    """Books by chance, with equal rows and rows within others."""
    chance = random.Random(seed)
    for _ in range(times):
        yield tuple(tuple((chance.choice((0, 1, 3, None)), chance.choice((0, 2, None))) for _ in range(many))
                    for _ in range(chance.randint(1, 9)))


class Books(unittest.TestCase):
    def test_books_are_returned(self):
        for many, book in ((1, ((FINE,),)), (1, (((64, None),), ((None, 64),))), (2, ((FINE, (1, 2)),) * 24),
                           (8, (((None, None),) * 8, (FINE,) * 8))):
            same(self, made_book(many, book), book)
            same(self, is_book(many, book), True)

    def test_fates(self):
        for bound, wanted in ((0, True), (1, True), (64, True), (None, True), (65, False), (-1, False), (True, False),
                              (False, False), ("0", False), ((), False), (0.0, False), (10 ** 40, False), ([], False)):
            same(self, is_book(1, (((bound, 0),),)), wanted)
            same(self, is_book(1, (((0, bound),),)), wanted)
            same(self, is_book(2, ((FINE, FINE), (FINE, (0, bound)))), wanted)

    def test_numbers_of_rows(self):
        for rows in range(30):
            book = ((FINE, FINE),) * rows
            same(self, is_book(2, book), 1 <= rows <= 24)
            if rows > 24:
                refuses(self, TooMany, rows, made_book, 2, book)
                refuses(self, TooMany, rows, made_book, 2, (None,) * rows)

    def test_others_are_refused_at_their_first_bad_row(self):
        row = (FINE, FINE)
        for thing, what in ((None, -1), ((), -1), ([row], -1), ("ab", -1), ({}, -1), (0, -1), ((None,), 0),
                            ((row, [FINE, FINE]), 1), ((row, (FINE,), None), 1), ((row, row, (FINE,) * 3), 2),
                            ((row, (FINE, [0, 0])), 1), (((FINE, (0, 0, 0)),), 0), (((FINE, (0,)),), 0), ((row, ()), 1),
                            ((row,) * 23 + (((65, 0), FINE),), 23), ([row] * 25, -1), ("a" * 30, -1), ((row, (FINE, (0, True))), 1), ((FINE,), 0),
                            ((row, (FINE, nested(18))), 1), ((row, "ab"), 1), ((row, (None, None)), 1)):
            refuses(self, BadBook, what, made_book, 2, thing)
            same(self, is_book(2, thing), False)

    def test_numbers_of_shelves(self):
        for many in NO_NUMBERS + (None, 0, 9, -1, 10 ** 40):
            refuses(self, BadMany, many, made_book, many, None)
            refuses(self, BadMany, many, lean, many, None)
            refuses(self, BadMany, many, same_books, many, None, None)
            same(self, is_book(many, ((FINE,),)), False)
            same(self, is_book(many, ()), False)
        for many in range(1, 9):
            same(self, is_book(many, ((FINE,) * many,)), True)
            same(self, is_book(many, ((FINE,) * (many + 1),)), False)
            same(self, is_book(many, ((FINE,) * (many - 1),)), False)

    def test_strange_things_are_judged(self):
        for thing in STRANGE + tuple(spoiled((((1, 0), (0, 1)), ((0, 0), (1, 1))), more=())):
            same(self, is_book(2, thing), False)


class Allows(unittest.TestCase):
    def test_one_shelf(self):
        for u, v in product(BOUNDS, repeat=2):
            for gone, wrong in product((0, 1, 2, 3, 64, 65, 1024), repeat=2):
                wanted = gone <= high(u) and wrong <= high(v)
                same(self, allows(((u, v),), ((gone, ((63, 65520),) * wrong),)), wanted)

    def test_all_shelves_must_be_allowed(self):
        row = ((1, 0), (0, 1), (None, 0))
        cells = ((0, 0),)
        same(self, allows(row, ((1, ()), (0, cells), (1024, ()))), True)
        same(self, allows(row, ((0, ()), (0, ()), (0, ()))), True)
        same(self, allows(row, ((2, ()), (0, cells), (9, ()))), False)
        same(self, allows(row, ((1, ()), (1, ()), (9, ()))), False)
        same(self, allows(row, ((1, ()), (0, cells), (9, cells))), False)
        same(self, allows(row, ((1, cells), (0, cells), (9, ()))), False)

    def test_eight_shelves_and_nine(self):
        same(self, allows((FINE,) * 8, ((0, ()),) * 8), True)
        same(self, allows((FINE,) * 9, ((0, ()),) * 9), False)
        same(self, allows((), ()), False)

    def test_unlike_numbers_of_shelves(self):
        same(self, allows((FINE, FINE), ((0, ()),)), False)
        same(self, allows((FINE,), ((0, ()), (0, ()))), False)
        same(self, allows((FINE,), ()), False)

    def test_edges_of_stops(self):
        row = ((None, None),)
        for stop, wanted in ((((1024, ()),), True), (((1025, ()),), False), (((-1, ()),), False),
                             (((0, ((0, 65520),)),), True), (((0, ((0, 65521),)),), False),
                             (((0, ((63, 0),)),), True), (((0, ((64, 0),)),), False), (((0, ((0, -1),)),), False),
                             (((0, ((0, 0),) * 1024),), True), (((0, ((0, 0),) * 1025),), False),
                             (((0, ((0,),)),), False), (((0, ((0, 0, 0),)),), False), (((0, (), ()),), False),
                             (((0,),), False), ((0, ()), False)):
            same(self, allows(row, stop), wanted)

    def test_edges_of_rows(self):
        stop = ((0, ()),)
        for row, wanted in ((((64, 64),), True), (((65, 0),), False), (((0, 65),), False), (((-1, 0),), False),
                            (((0,),), False), (((0, 0, 0),), False), ((FINE, FINE), False), (FINE, False)):
            same(self, allows(row, stop), wanted)

    def test_strange_things_are_judged(self):
        row = ((1, None), (None, 1))
        stop = ((1, ((1, 0),)), (0, ()))
        same(self, allows(row, stop), True)
        for thing in STRANGE:
            same(self, allows(thing, stop), False)
            same(self, allows(row, thing), False)
            same(self, allows(thing, thing), False)
        for thing in spoiled(row, more=()):
            same(self, allows(thing, stop), False)
        for thing in spoiled(stop):
            same(self, allows(row, thing), False)


class Lean(unittest.TestCase):
    def test_rows_within_others_go(self):
        for many in (1, 2, 3):
            for book in some_books(many, many, 150):
                found = lean(many, book)
                self.assertIs(type(found), tuple)
                wanted = {row for row in book if not any(row != other and within(row, other) for other in book)}
                self.assertEqual(len(found), len(wanted))
                self.assertEqual(set(found), wanted)
                keys = [[high(bound) for fate in row for bound in fate] for row in found]
                self.assertEqual(keys, sorted(keys))

    def test_order(self):
        book = (((None, 0), FINE), ((64, 1), FINE), ((0, None), FINE), ((0, 64), (1, 0)), ((0, 64), (0, None)))
        same(self, lean(2, book), (((0, 64), (0, None)), ((0, 64), (1, 0)), ((0, None), FINE), ((64, 1), FINE),
                                   ((None, 0), FINE)))

    def test_none_is_above_all_numbers(self):
        same(self, lean(1, (((64, 0),), ((None, 0),))), (((None, 0),),))
        same(self, lean(1, (((0, 64),), ((0, None),))), (((0, None),),))
        same(self, lean(1, (((None, 1),), ((None, None),), ((1, None),))), (((None, None),),))

    def test_equal_rows_stay_once(self):
        same(self, lean(1, ((FINE,),) * 24), ((FINE,),))

    def test_allows_the_same_stops(self):
        stops = [((gone, ((0, 0),) * wrong),) for gone in range(5) for wrong in range(4)]
        for book in some_books(7, 1, 80):
            for stop in stops:
                self.assertEqual(any(allows(row, stop) for row in book),
                                 any(allows(row, stop) for row in lean(1, book)))

    def test_errors(self):
        refuses(self, BadBook, -1, lean, 2, ())
        refuses(self, TooMany, 25, lean, 1, ((FINE,),) * 25)
        refuses(self, BadBook, 1, lean, 1, ((FINE,), (FINE, FINE)))


class SameBooks(unittest.TestCase):
    def test_by_their_leans(self):
        books = list(some_books(9, 1, 60))
        for one in books:
            for two in books:
                same(self, same_books(1, one, two), set(lean(1, one)) == set(lean(1, two)))

    def test_orders_and_rows_within_do_not_count(self):
        one = (((1, 0), FINE), ((0, 1), FINE))
        two = (((0, 1), FINE), (FINE, FINE), ((1, 0), FINE), ((0, 1), FINE))
        same(self, same_books(2, one, two), True)
        same(self, same_books(2, one, one[:1]), False)
        same(self, same_books(2, one, (((1, 1), FINE),)), False)

    def test_errors_in_order(self):
        good = ((FINE,),)
        refuses(self, BadBook, -1, same_books, 1, None, ((0,),))
        refuses(self, BadBook, 0, same_books, 1, (None,), good * 25)
        refuses(self, TooMany, 25, same_books, 1, good * 25, None)
        refuses(self, BadBook, -1, same_books, 1, good, None)
        refuses(self, TooMany, 26, same_books, 1, good, good * 26)
        refuses(self, BadBook, 1, same_books, 1, good, good + (None,))


class Example(unittest.TestCase):
    def test_4_3(self):
        runs_as_shown(self, """
>>> from firstsafe.books import allows, lean
>>> lean(2, (((0, 1), (3, 0)), ((0, 1), (3, 0)), ((0, 0), (None, 0)), ((0, 1), (2, 0))))
(((0, 0), (None, 0)), ((0, 1), (3, 0)))
>>> allows(((0, None), (2, 0)), ((0, ((1, 4),)), (2, ())))
True
>>> allows(((0, None), (2, 0)), ((1, ()), (2, ())))
False
""")

    def test_by_name(self):
        same(self, made_book(thing=((FINE,),), many=1), ((FINE,),))
        same(self, is_book(thing=((FINE,),), many=1), True)
        same(self, allows(stop=((0, ()),), row=(FINE,)), True)
        same(self, lean(book=((FINE,),), many=1), ((FINE,),))
        same(self, same_books(two=((FINE,),), one=((FINE,),), many=1), True)


if __name__ == "__main__":
    unittest.main()
