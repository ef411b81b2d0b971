"""The clerk ([6.7])."""

import random
import unittest

from firstsafe.bookwords import read_book
from firstsafe.clerk import Clerk
from firstsafe.errors import BadBook, BadGround, BadNumber, BadShelf, Full, TooMany
from firstsafe.safety import done
from tests.helper import FINE, NO_NUMBERS, refuses, runs_as_shown, same, some_book

TWO = (5, 2, (0, 5))
NOTHING = ((FINE, FINE),)


def full_clerk():
    """A clerk whose first tape is full."""
    clerk = Clerk(TWO, NOTHING)
    for n in range(1024):
        clerk.write(0, n % 64)
    return clerk


class Writing(unittest.TestCase):
    def test_begins_with_empty_tapes(self):
        clerk = Clerk(TWO, NOTHING)
        same(self, (clerk.weaving(), clerk.done()), (((), ()), ()))
        same(self, Clerk((5, 1, tuple(range(5))), ((FINE,) * 5,)).weaving(), ((),) * 5)

    def test_reports_what_is_safe_now_and_was_not_before(self):
        clerk = Clerk(TWO, NOTHING)
        same(self, [clerk.write(0, 5), clerk.write(1, 63), clerk.write(1, 5), clerk.write(0, 5), clerk.write(1, 63)],
             [(), (), (5,), (), (63,)])
        same(self, clerk.done(), (5, 63))
        same(self, clerk.weaving(), ((5, 5), (63, 5, 63)))

    def test_safe_by_cells_of_other_batches(self):
        clerk = Clerk(TWO, (((1, 1), FINE),))
        got = [clerk.write(0, b) for b in (3, 3, 1, 1, 1, 2)]
        same(self, got, [(), (), (), (3,), (), (1,)])

    def test_several_at_once_ascending(self):
        clerk = Clerk((5, 1, (0, 1)), (((1, 0), FINE), (FINE, (1, 0))))
        got = [clerk.write(*event) for event in ((0, 9), (1, 1), (1, 2), (0, 2))]
        same(self, got, [(), (), (1,), (2, 9)])
        same(self, clerk.done(), (1, 2, 9))

    def test_nothing_ever_becomes_safe(self):
        clerk = Clerk(TWO, (((None, 0), (0, None)),))
        for n in range(300):
            same(self, clerk.write(n % 2, 0), ())
        same(self, clerk.done(), ())

    def test_a_full_tape(self):
        clerk = full_clerk()
        before = (clerk.weaving(), clerk.done())
        self.assertEqual(len(before[0][0]), 1024)
        refuses(self, Full, 0, clerk.write, 0, 0)
        refuses(self, Full, 0, clerk.write, 0, 63)
        same(self, (clerk.weaving(), clerk.done()), before)
        same(self, clerk.write(1, 5), ())
        clerk.lost(0)
        same(self, clerk.write(0, 6), ())
        same(self, clerk.weaving(), ((6,), (5,)))


class Changing(unittest.TestCase):
    def test_what_is_not_safe_any_more_is_returned(self):
        clerk = Clerk(TWO, NOTHING)
        for b in (0, 0, 1, 1, 2, 2):
            clerk.write(0, b)
        same(self, clerk.done(), (0, 1, 2))
        same(self, clerk.change((((3, 0), FINE),)), (1, 2))
        same(self, clerk.done(), (0,))
        same(self, clerk.weaving(), ((0, 0, 1, 1, 2, 2), ()))
        same(self, clerk.change((((0, None), FINE),)), (0,))
        same(self, clerk.done(), ())

    def test_what_is_safe_now_is_neither_returned_nor_reported_again(self):
        clerk = Clerk(TWO, (((3, 0), FINE),))
        for b in (7, 7, 8, 8):
            same(self, clerk.write(0, b), ())
        same(self, clerk.change(NOTHING), ())
        same(self, clerk.done(), (7, 8))
        for b in (7, 8, 7, 8):
            same(self, clerk.write(0, b), ())
            same(self, clerk.write(1, b), ())
        same(self, clerk.done(), (7, 8))

    def test_both_at_once(self):
        clerk = Clerk((5, 1, (0, 1)), (((None, 0), FINE),))
        for event in ((0, 4), (1, 5), (1, 6)):
            clerk.write(*event)
        same(self, clerk.done(), (5, 6))
        same(self, clerk.change(((FINE, (1, 0)),)), (6,))
        same(self, clerk.done(), (4, 5))
        same(self, clerk.write(1, 5), (6,))

    def test_what_becomes_unsafe_is_reported_again(self):
        clerk = Clerk(TWO, NOTHING)
        same(self, (clerk.write(0, 1), clerk.write(0, 1)), ((), (1,)))
        same(self, clerk.change((((1, 0), FINE),)), (1,))
        same(self, clerk.write(0, 9), (1,))

    def test_the_same_book_changes_nothing(self):
        clerk = full_clerk()
        before = (clerk.weaving(), clerk.done())
        same(self, clerk.change(NOTHING), ())
        same(self, (clerk.weaving(), clerk.done()), before)


class Losing(unittest.TestCase):
    def test_what_is_not_safe_any_more_is_returned(self):
        clerk = Clerk(TWO, NOTHING)
        for event in ((0, 1), (1, 1), (0, 2), (0, 2), (1, 3), (1, 3), (1, 4)):
            clerk.write(*event)
        same(self, clerk.done(), (1, 2, 3))
        same(self, clerk.lost(0), (1, 2))
        same(self, (clerk.weaving(), clerk.done()), (((), (1, 3, 3, 4)), (3,)))
        same(self, clerk.lost(0), ())
        same(self, clerk.lost(1), (3,))
        same(self, (clerk.weaving(), clerk.done()), (((), ()), ()))

    def test_cells_written_behind_begin_at_place_0(self):
        """Two cells were there before; k more are needed now, and the weaving has just those."""
        clerk = Clerk((5, 3, (0, 5)), NOTHING)
        clerk.write(0, 1)
        clerk.write(0, 1)
        same(self, clerk.lost(0), ())
        same(self, [clerk.write(0, 1) for _ in range(3)], [(), (), (1,)])
        same(self, clerk.weaving(), ((1, 1, 1), ()))

    def test_the_book_that_was_exchanged_holds(self):
        clerk = Clerk(TWO, NOTHING)
        clerk.change((((1, 0), (0, 1)),))
        clerk.lost(1)
        same(self, [clerk.write(0, 6) for _ in range(3)], [(), (), (6,)])


class ByChance(unittest.TestCase):
    def test_against_the_sums(self):
        chance = random.Random(1)
        seen = {"write": 0, "change": 0, "lost": 0, "by others": 0}
        for _ in range(150):
            many = chance.randint(1, 4)
            ground = (5, chance.randint(1, 3), (0, 5, 2, 1)[:many])
            book = some_book(chance, many, 3)
            clerk, tapes, before = Clerk(ground, book), [[] for _ in range(many)], ()
            for _ in range(40):
                deed = chance.random()
                if deed < 0.9:
                    shelf, b = chance.randrange(many), chance.choice((0, 1, 1, 63))
                    got = clerk.write(shelf, b)
                    tapes[shelf].append(b)
                    after = done(ground, book, False, tuple(map(tuple, tapes)))
                    same(self, got, tuple(c for c in after if c not in before))
                    seen["write"] += len(got)
                    seen["by others"] += any(c != b for c in got)
                else:
                    if deed < 0.95:
                        book = some_book(chance, many, 3)
                        word, got = "change", clerk.change(book)
                    else:
                        shelf = chance.randrange(many)
                        tapes[shelf] = []
                        word, got = "lost", clerk.lost(shelf)
                    after = done(ground, book, False, tuple(map(tuple, tapes)))
                    same(self, got, tuple(c for c in before if c not in after))
                    seen[word] += len(got)
                same(self, clerk.done(), after)
                same(self, clerk.weaving(), tuple(map(tuple, tapes)))
                before = after
        self.assertGreater(min(seen.values()), 10)

    def test_full_tapes_and_24_rows(self):
        ground = (7, 5, tuple(range(8)))
        book = tuple(((n, 24 - n),) * 8 for n in range(24))
        clerk, reported = Clerk(ground, book), []
        for n in range(8192):
            reported += clerk.write(n % 8, n // 8 % 64)
        self.assertEqual(sorted(reported), list(range(64)))
        same(self, clerk.done(), done(ground, book, False, clerk.weaving()))
        lose = read_book(("a", "b", "c", "d", "e", "f", "g", "h"), "lose any 1; turn any 1")
        same(self, clerk.change(lose), ())
        for shelf in range(7):
            clerk.lost(shelf)
            same(self, clerk.done(), done(ground, lose, False, clerk.weaving()))


class Errors(unittest.TestCase):
    def test_of_the_class(self):
        for wrong, what in ((None, -1), ((4, 1, (0,)), 0), ((5, 0, (0,)), 1), ((5, 1, (0, 0)), 2)):
            refuses(self, BadGround, what, Clerk, wrong, None)
        for wrong, what in ((None, -1), ((), -1), (((FINE,),), 0), ((NOTHING[0], ((65, 0), FINE)), 1)):
            refuses(self, BadBook, what, Clerk, TWO, wrong)
        refuses(self, TooMany, 25, Clerk, TWO, NOTHING * 25)

    def test_of_the_methods_in_order_and_nothing_is_changed(self):
        clerk = full_clerk()
        clerk.write(1, 7)
        before = (clerk.weaving(), clerk.done())
        for shelf in NO_NUMBERS + (None, 2, -1, 10 ** 40):
            refuses(self, BadShelf, shelf, clerk.write, shelf, 64)
            refuses(self, BadShelf, shelf, clerk.write, shelf, 0)
            refuses(self, BadShelf, shelf, clerk.lost, shelf)
        for b in NO_NUMBERS + (None, 64, -1, 10 ** 40):
            refuses(self, BadNumber, b, clerk.write, 0, b)
            refuses(self, BadNumber, b, clerk.write, 1, b)
        refuses(self, Full, 0, clerk.write, 0, 0)
        for wrong, what in ((None, -1), ((), -1), ([], -1), (((FINE,),), 0), ((NOTHING[0], ((65, 0), FINE)), 1)):
            refuses(self, BadBook, what, clerk.change, wrong)
        refuses(self, TooMany, 25, clerk.change, NOTHING * 25)
        same(self, (clerk.weaving(), clerk.done()), before)
        # The book is the old one, too: one more cell makes batch 7 safe.
        clerk.lost(0)
        same(self, clerk.write(1, 7), (7,))

    def test_by_name(self):
        clerk = Clerk(book=NOTHING, ground=TWO)
        same(self, clerk.write(b=3, shelf=1), ())
        same(self, clerk.change(book=NOTHING), ())
        same(self, clerk.lost(shelf=1), ())


class Example(unittest.TestCase):
    def test_of_the_interface(self):
        runs_as_shown(self, """
>>> from firstsafe.clerk import Clerk
>>> clerk = Clerk((3, 2, (0, 1, 2, 3)), (((0, 0), (0, 0), (0, 0), (0, 0)),))
>>> (clerk.write(0, 5), clerk.write(2, 5), clerk.done())
((), (5,), (5,))
>>> (clerk.lost(2), clerk.weaving())
((5,), ((5,), (), (), ()))
""")


if __name__ == "__main__":
    unittest.main()
