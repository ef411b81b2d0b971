"""Stops ([3.2])."""

import random
import unittest

from firstsafe.errors import BadGround, BadReading, BadStop, Short
from firstsafe.stops import made_stop, stopped
from tests.helper import STRANGE, nested, refuses, same, spoiled

TWO = (5, 3, (0, 5))
READING = (((0, 1), (1, 4), (0, 2)), ((1, 4),))
NOTHING = (0, ())


class Stops(unittest.TestCase):
    def test_stops_are_returned(self):
        for stop in ((NOTHING, NOTHING), ((1024, ()), (0, ((63, 4),) * 1024)), ((1024, ((0, 0),) * 1024), (3, ((1, 1),)))):
            same(self, made_stop(TWO, stop), stop)

    def test_others_are_refused_at_their_first_bad_shelf(self):
        for thing, what in ((None, -1), ((), -1), ((NOTHING,), -1), ((NOTHING,) * 3, -1), ([NOTHING, NOTHING], -1),
                            (0, -1), ("ab", -1), (((1025, ()), NOTHING), 0), ((NOTHING, (-1, ())), 1),
                            ((NOTHING, (0, ((0, 5),))), 1), ((NOTHING, (0, ((64, 0),))), 1), ((NOTHING, [0, ()]), 1),
                            ((NOTHING, (0, [])), 1), ((NOTHING, (0,)), 1), ((NOTHING, (0, (), 0)), 1), ((NOTHING, ()), 1),
                            (((True, ()), NOTHING), 0), (((None, ()), NOTHING), 0), (((0, None), NOTHING), 0),
                            (((0, 0), NOTHING), 0), (((0, (0, 0)), NOTHING), 0), ((NOTHING, (0, ((0, True),))), 1),
                            ((NOTHING, (0, ((0, 0),) * 1025)), 1), ((None, None), 0), (("ab", NOTHING), 0),
                            ((NOTHING, nested(19)), 1)):
            refuses(self, BadStop, what, made_stop, TWO, thing)

    def test_strange_things_are_refused(self):
        stop = ((1, ((1, 0),)), (0, ()))
        for thing in STRANGE + tuple(spoiled(stop)):
            with self.assertRaises(BadStop):
                made_stop(TWO, thing)

    def test_the_ground_comes_first(self):
        for ground, what in ((None, -1), ((4, 3, (0, 5)), 0), ((5, 0, (0, 5)), 1), ((5, 3, (0, 0)), 2)):
            refuses(self, BadGround, what, made_stop, ground, None)
            refuses(self, BadGround, what, stopped, ground, None, None)


class Stopped(unittest.TestCase):
    def test_nothing_befell(self):
        same(self, stopped(TWO, READING, (NOTHING, NOTHING)), READING)
        same(self, stopped(TWO, ((), ()), (NOTHING, NOTHING)), ((), ()))

    def test_cells_are_gone(self):
        same(self, stopped(TWO, READING, ((2, ()), (1, ()))), (((0, 1),), ()))
        same(self, stopped(TWO, READING, ((3, ()), NOTHING)), ((), ((1, 4),)))

    def test_cells_are_wrong(self):
        same(self, stopped(TWO, READING, ((0, ((7, 0), (8, 3))), NOTHING)), (((0, 1), (7, 0), (8, 3)), ((1, 4),)))
        same(self, stopped(TWO, READING, ((0, ((9, 1), (7, 0), (8, 3))), NOTHING)),
             (((9, 1), (7, 0), (8, 3)), ((1, 4),)))

    def test_wrong_cells_may_be_equal_to_the_right_ones(self):
        same(self, stopped(TWO, READING, ((1, ((1, 4),)), (0, ((1, 4),)))), (((0, 1), (1, 4)), ((1, 4),)))

    def test_gone_first_and_then_wrong(self):
        same(self, stopped(TWO, READING, ((1, ((7, 0),)), NOTHING)), (((0, 1), (7, 0)), ((1, 4),)))
        same(self, stopped(TWO, READING, ((2, ((7, 0),)), NOTHING)), (((7, 0),), ((1, 4),)))

    def test_by_chance(self):
        chance = random.Random(1)
        for _ in range(200):
            cells = [(chance.randrange(64), chance.randrange(5)) for _ in range(chance.randint(0, 8))]
            gone = chance.randint(0, len(cells))
            wrong = [(0, 0)] * chance.randint(0, len(cells) - gone)
            wanted = list(cells)
            for _ in range(gone):
                wanted.pop()
            for at, cell in enumerate(wrong):
                wanted[len(wanted) - len(wrong) + at] = cell
            same(self, stopped(TWO, (tuple(cells), ()), ((gone, tuple(wrong)), NOTHING)), (tuple(wanted), ()))

    def test_short_tapes(self):
        refuses(self, Short, 1, stopped, TWO, READING, (NOTHING, (2, ())))
        refuses(self, Short, 1, stopped, TWO, READING, ((3, ()), (1, ((0, 0),))))
        refuses(self, Short, 0, stopped, TWO, READING, ((2, ((0, 0), (0, 0))), (9, ())))
        refuses(self, Short, 0, stopped, TWO, READING, ((0, ((0, 0),) * 4), NOTHING))
        refuses(self, Short, 0, stopped, TWO, ((), ()), ((0, ((0, 0),)), NOTHING))

    def test_errors_in_order(self):
        refuses(self, BadReading, -1, stopped, TWO, None, None)
        refuses(self, BadReading, 0, stopped, TWO, (((0, 5),), ()), None)
        refuses(self, BadStop, -1, stopped, TWO, READING, ((9, ()),))
        refuses(self, BadStop, 1, stopped, TWO, READING, ((9, ()), (1025, ())))

    def test_by_name(self):
        same(self, made_stop(thing=(NOTHING, NOTHING), ground=TWO), (NOTHING, NOTHING))
        same(self, stopped(stop=(NOTHING, NOTHING), reading=READING, ground=TWO), READING)


if __name__ == "__main__":
    unittest.main()
