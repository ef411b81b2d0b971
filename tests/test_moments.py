"""Events and the moments of batches ([6.6], [0.3](d))."""

import random
import unittest

from firstsafe.errors import BadBook, BadEvents, BadGround, BadNumber, BadTold, TooMany
from firstsafe.moments import after, made_events, moments
from firstsafe.safety import done, safe
from tests.helper import (
    FINE, NO_NUMBERS, STRANGE, TOLD, nested, refuses, runs_as_shown, same, some_book, spoiled)

TWO = (5, 2, (0, 5))
FIVE = (5, 2, (0, 1, 2, 3, 5))
NOTHING = ((FINE, FINE),)


def in_turn(many, shelves):
    """So many events, the shelves taking turns."""
    return tuple((n % shelves, n % 3) for n in range(many))


class Events(unittest.TestCase):
    def test_events_are_returned(self):
        for events in ((), ((0, 0),), ((1, 63), (0, 0), (1, 63)), ((0, 5),) * 1024 + ((1, 5),) * 1024):
            same(self, made_events(TWO, events), events)

    def test_4096_and_4097_events(self):
        same(self, made_events(FIVE, in_turn(4096, 5)), in_turn(4096, 5))
        refuses(self, BadEvents, -1, made_events, FIVE, in_turn(4097, 5))
        refuses(self, BadEvents, -1, made_events, FIVE, (None,) * 4097)
        refuses(self, BadEvents, 4095, made_events, FIVE, in_turn(4095, 5) + ((5, 0),))

    def test_the_1024th_and_the_1025th_cell_of_a_shelf(self):
        full = ((1, 7),) * 1024
        same(self, made_events(TWO, full + ((0, 7),)), full + ((0, 7),))
        refuses(self, BadEvents, 1024, made_events, TWO, full + ((1, 7),))
        refuses(self, BadEvents, 1026, made_events, TWO, full + ((0, 7), (0, 8), (1, 0), None))
        refuses(self, BadEvents, 3, made_events, TWO, ((1, 7), (0, 0), (1, 7), (2, 7)) + full)
        refuses(self, BadEvents, 2048, made_events, TWO, ((0, 1), (1, 2)) * 1024 + ((0, 1),))

    def test_others_are_refused_at_their_first_bad_one(self):
        for wrong in ((2, 0), (-1, 0), (0, 64), (0, -1), (True, 0), (0, False), (0,), (0, 0, 0), (), [0, 0], None, 0, "ab",
                      (None, 0), (0, None), ("0", 0), ((0,), 0), (0, (0, 0)), nested(20), (10 ** 40, 0), (0, 10 ** 40)):
            refuses(self, BadEvents, 0, made_events, TWO, (wrong, None))
            refuses(self, BadEvents, 2, made_events, TWO, ((0, 0), (1, 0), wrong, (0, 64)))
        for wrong in (None, 0, True, "ab", [], [(0, 0)], {}):
            refuses(self, BadEvents, -1, made_events, TWO, wrong)

    def test_strange_things_are_refused(self):
        for thing in STRANGE + tuple(spoiled(((0, 1), (1, 2)))):
            if thing != ():
                with self.assertRaises(BadEvents):
                    made_events(TWO, thing)


class After(unittest.TestCase):
    EVENTS = ((0, 4), (1, 5), (0, 5), (0, 4))

    def test_the_first_events(self):
        for many, wanted in ((0, ((), ())), (1, ((4,), ())), (2, ((4,), (5,))), (3, ((4, 5), (5,))),
                             (4, ((4, 5, 4), (5,)))):
            same(self, after(TWO, self.EVENTS, many), wanted)
        same(self, after(TWO, (), 0), ((), ()))
        same(self, after(FIVE, in_turn(4096, 5), 4096),
             tuple(tuple(n % 3 for n in range(4096) if n % 5 == shelf) for shelf in range(5)))

    def test_other_numbers_are_refused(self):
        for wrong in NO_NUMBERS + (None, -1, 5, 10 ** 40):
            refuses(self, BadNumber, wrong, after, TWO, self.EVENTS, wrong)
        refuses(self, BadNumber, 1, after, TWO, (), 1)

    def test_errors_in_order(self):
        refuses(self, BadGround, 1, after, (5, 0, ()), None, None)
        refuses(self, BadEvents, -1, after, TWO, None, None)
        refuses(self, BadEvents, 1, after, TWO, ((0, 0), (2, 0)), 9)
        refuses(self, BadGround, 2, made_events, (5, 2, (0, 0)), None)
        refuses(self, BadNumber, 5, after, TWO, self.EVENTS, 5)

    def test_by_name(self):
        same(self, after(many=1, events=self.EVENTS, ground=TWO), ((4,), ()))
        same(self, made_events(thing=(), ground=TWO), ())


class Moments(unittest.TestCase):
    def test_no_events(self):
        for told in TOLD:
            same(self, moments(TWO, NOTHING, told, ()), ())

    def test_by_chance(self):
        chance = random.Random(1)
        seen = {}
        for _ in range(250):
            many = chance.randint(1, 4)
            ground = (5, chance.randint(1, 3), (0, 5, 2, 1)[:many])
            book, told = some_book(chance, many, 4), chance.choice(TOLD)
            events = tuple((chance.randrange(many), chance.choice((0, 0, 2, 3, 5))) for _ in range(chance.randint(0, 30)))
            got = moments(ground, book, told, events)
            weavings = [after(ground, events, m) for m in range(len(events) + 1)]
            wanted = []
            for b in range(max([b for _, b in events], default=-1) + 1):
                safe_at = [m for m, weaving in enumerate(weavings) if safe(ground, book, told, weaving, b)]
                # A safe batch stays safe.
                self.assertEqual(safe_at, list(range(safe_at[0], len(events) + 1)) if safe_at else [])
                wanted.append(safe_at[0] if safe_at else None)
                own = [m for m, (_, c) in enumerate(events) if c == b]
                if safe_at:
                    seen[own[-1] + 1 < safe_at[0]] = True
                else:
                    seen[None] = True
            same(self, got, tuple(wanted))
        self.assertEqual(len(seen), 3)

    def test_batches_that_never_become_safe(self):
        for told in TOLD:
            same(self, moments(TWO, (((None, 0), (0, None)),), told, in_turn(2000, 2)), (None, None, None))
            same(self, moments(TWO, NOTHING, told, ((0, 2), (0, 2), (1, 0))), (None, None, 2))

    def test_batches_that_become_safe_by_cells_of_another_one(self):
        book = (((1, 1), FINE),)
        events = ((0, 3), (0, 3), (0, 1), (0, 1), (1, 1), (0, 2))
        for told in TOLD:
            same(self, moments(TWO, book, told, events), (None, 6, None, 4))

    def test_several_batches_may_become_safe_at_once(self):
        book = (((1, 0), FINE), (FINE, (1, 0)))
        for told in TOLD:
            same(self, moments((5, 1, (0, 1)), book, told, ((0, 0), (1, 1), (1, 2), (0, 2))), (4, 3, 4))

    def test_a_lost_shelf_and_short_tails(self):
        book = (((2, 0), (2, 0)), ((None, 0), FINE))
        events = ((1, 0), (1, 0), (1, 1), (1, 1), (0, 2), (0, 2), (1, 2), (1, 2))
        for told in TOLD:
            same(self, moments(TWO, book, told, events), (4, 8, None))
            same(self, moments(TWO, book, told, events[:7]), (4, None, None))

    def test_full_tapes_and_24_rows(self):
        book = tuple(((n, 24 - n),) * 4 + ((0, n),) for n in range(24))
        events = in_turn(4096, 5)
        for told in TOLD:
            got = moments(FIVE, book, told, events)
            for b, moment in enumerate(got):
                same(self, safe(FIVE, book, told, after(FIVE, events, moment), b), True)
                same(self, safe(FIVE, book, told, after(FIVE, events, moment - 1), b), False)
            same(self, done(FIVE, book, told, after(FIVE, events, 4096)), (0, 1, 2))

    def test_batch_63(self):
        same(self, moments((5, 1, (0,)), ((FINE,),), False, ((0, 63),)), (None,) * 63 + (1,))

    def test_errors_in_order(self):
        for wrong, what in ((None, -1), ((4, 1, (0,)), 0), ((5, 0, (0,)), 1), ((5, 1, (0, 0)), 2)):
            refuses(self, BadGround, what, moments, wrong, None, None, None)
        for wrong, what in ((None, -1), ((), -1), (((FINE,),), 0), (((FINE, FINE), ((65, 0), FINE)), 1)):
            refuses(self, BadBook, what, moments, TWO, wrong, None, None)
        refuses(self, TooMany, 25, moments, TWO, NOTHING * 25, None, None)
        for told in (None, 0, 1, "True", (), (True,)):
            refuses(self, BadTold, told, moments, TWO, NOTHING, told, None)
        refuses(self, BadEvents, -1, moments, TWO, NOTHING, True, None)
        refuses(self, BadEvents, 1, moments, TWO, NOTHING, False, ((0, 0), (2, 0)))

    def test_by_name(self):
        same(self, moments(events=((0, 0), (1, 0)), told=True, book=NOTHING, ground=TWO), (2,))


class Example(unittest.TestCase):
    def test_of_the_interface(self):
        runs_as_shown(self, """
>>> from firstsafe.moments import after, moments
>>> ground = (3, 2, (0, 1, 2, 3))
>>> events = ((0, 0), (0, 0), (1, 0), (2, 0), (3, 2))
>>> after(ground, events, 3)
((0, 0), (0,), (), ())
>>> nothing = (((0, 0), (0, 0), (0, 0), (0, 0)),)
>>> moments(ground, nothing, False, events)
(2, None, None)
""")


if __name__ == "__main__":
    unittest.main()
