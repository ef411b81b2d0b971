"""Weavings and readings ([3], [3.1], [3.3])."""

import random
import unittest

from firstsafe.errors import BadBatches, BadGround, BadLengths, BadNumber, BadReading, BadWeaving, Missing
from firstsafe.rows import cell
from firstsafe.tapes import cells_of, is_reading, is_weaving, made_reading, made_weaving, weaving_of, written
from tests.helper import NO_NUMBERS, STRANGE, nested, refuses, runs_as_shown, same, spoiled

GROUND = (5, 3, (0, 1, 2, 5))
TWO = (5, 3, (0, 5))
BAD_GROUNDS = ((None, -1), ((5, 3), -1), ((4, 3, (0,)), 0), ((5, 13, (0,)), 1), ((5, 3, (0, 6)), 2),
               ([5, 3, (0, 5)], -1), ((5, 3, [0, 5]), 2), ((5, True, (0, 5)), 1))


def some_tape(chance, batches, most):
    """A tape of at most so many cells of the batches."""
    return tuple(chance.choice(batches) for _ in range(chance.randint(0, most)))


class Weavings(unittest.TestCase):
    def test_weavings_are_returned(self):
        for weaving in (((), ()), ((0,), ()), ((0, 0, 63, 5, 0), (1,)), ((63,) * 1024, tuple(range(64)) * 16)):
            same(self, made_weaving(TWO, weaving), weaving)
            same(self, is_weaving(TWO, weaving), True)
        same(self, made_weaving((7, 1, tuple(range(8))), ((1,),) * 8), ((1,),) * 8)
        same(self, made_weaving((2, 1, (2,)), ((),)), ((),))

    def test_others_are_refused_at_their_first_bad_shelf(self):
        for thing, what in ((None, -1), ((), -1), (((),), -1), (((), (), ()), -1), ([(), ()], -1), ("ab", -1),
                            (0, -1), (True, -1), (((64,), ()), 0), (((), (0, 64)), 1), (((), (-1,)), 1),
                            ((None, None), 0), (((0,), [0]), 1), (((0,), 0), 1), (((0,), "0"), 1), (((True,), ()), 0),
                            (((0,), (False,)), 1), (((0,), ("0",)), 1), (((0,), ((0,),)), 1), (((0,), (None,)), 1),
                            (((0,) * 1025, ()), 0), (((0,) * 1024, (0,) * 1025), 1), (((0,) * 2000, (64,)), 0),
                            (((10 ** 40,), ()), 0), (((), nested(19)), 1), (((0, 0.5), ()), 0)):
            refuses(self, BadWeaving, what, made_weaving, TWO, thing)
            same(self, is_weaving(TWO, thing), False)

    def test_edges(self):
        for many, wanted in ((0, True), (1023, True), (1024, True), (1025, False)):
            same(self, is_weaving(TWO, ((7,) * many, ())), wanted)
        for b, wanted in ((-1, False), (0, True), (63, True), (64, False)):
            same(self, is_weaving(TWO, ((), (0, b))), wanted)

    def test_strange_things_are_judged(self):
        weaving = ((0, 1), (1,))
        for thing in STRANGE + tuple(spoiled(weaving)):
            same(self, is_weaving(TWO, thing), False)
        for ground in STRANGE + tuple(spoiled(TWO)):
            same(self, is_weaving(ground, weaving), False)

    def test_the_ground_comes_first(self):
        for ground, what in BAD_GROUNDS:
            refuses(self, BadGround, what, made_weaving, ground, None)


class Readings(unittest.TestCase):
    def test_readings_are_returned(self):
        for reading in (((), ()), (((0, 4),), ()), (((63, 0), (0, 1), (63, 4)), ((1, 1),)),
                        (((63, 4),) * 1024, ((0, 0),) * 1024)):
            same(self, made_reading(TWO, reading), reading)
            same(self, is_reading(TWO, reading), True)
        same(self, made_reading((65521, 1, (0,)), (((0, 65520),),)), (((0, 65520),),))

    def test_others_are_refused_at_their_first_bad_shelf(self):
        for thing, what in ((None, -1), ((), -1), (((),), -1), (((), (), ()), -1), ([(), ()], -1), ("ab", -1),
                            (1, -1), (False, -1), ((((64, 0),), ()), 0), (((), ((0, 5),)), 1), (((), ((0, -1),)), 1),
                            (((), ((-1, 0),)), 1), ((None, None), 0), (((), [(0, 0)]), 1), (((), (0, 0)), 1),
                            (((), ([0, 0],)), 1), ((((0,),), ()), 0), ((((0, 0, 0),), ()), 0), ((((),), ()), 0),
                            ((((True, 0),), ()), 0), ((((0, True),), ()), 0), ((((0, "0"),), ()), 0), ((("00",), ()), 0),
                            ((((0, None),), ()), 0), ((((0, 0),) * 1025, ()), 0), ((((0, 0),) * 1024, ((0, 0),) * 1025), 1),
                            (((), ((0, 10 ** 40),)), 1), (((), nested(19)), 1), ((((0, 0), ((0, 0), 0)), ()), 0)):
            refuses(self, BadReading, what, made_reading, TWO, thing)
            refuses(self, BadReading, what, weaving_of, TWO, thing)
            same(self, is_reading(TWO, thing), False)

    def test_edges(self):
        for many, wanted in ((1023, True), (1024, True), (1025, False)):
            same(self, is_reading(TWO, (((7, 1),) * many, ())), wanted)
        for b, wanted in ((-1, False), (0, True), (63, True), (64, False)):
            same(self, is_reading(TWO, ((), ((b, 0),))), wanted)
        for number, wanted in ((-1, False), (0, True), (4, True), (5, False)):
            same(self, is_reading(TWO, ((), ((0, number),))), wanted)

    def test_strange_things_are_judged(self):
        reading = (((0, 1), (1, 0)), ((1, 1),))
        for thing in STRANGE + tuple(spoiled(reading)):
            same(self, is_reading(TWO, thing), False)
        for ground in STRANGE + tuple(spoiled(TWO)):
            same(self, is_reading(ground, reading), False)

    def test_the_ground_comes_first(self):
        for ground, what in BAD_GROUNDS:
            refuses(self, BadGround, what, made_reading, ground, None)
            refuses(self, BadGround, what, weaving_of, ground, None)

    def test_their_weavings(self):
        same(self, weaving_of(TWO, ((), ())), ((), ()))
        same(self, weaving_of(TWO, (((3, 0), (0, 4), (3, 1)), ((63, 2),))), ((3, 0, 3), (63,)))


class Written(unittest.TestCase):
    def test_each_entry_becomes_the_next_cell_of_its_batch(self):
        chance = random.Random(1)
        for ground in (GROUND, (2, 1, (2, 0)), (65521, 12, (0, 65521, 7))):
            p, k, points = ground
            for _ in range(12):
                batches = tuple(tuple(chance.randrange(p) for _ in range(k)) for _ in range(5))
                weaving = tuple(some_tape(chance, (0, 1, 4), 40) for _ in points)
                wanted = tuple(tuple((b, cell(ground, batches[b], shelf, tape[:at].count(b)))
                                     for at, b in enumerate(tape)) for shelf, tape in enumerate(weaving))
                same(self, written(ground, batches, weaving), wanted)
                same(self, weaving_of(ground, wanted), weaving)

    def test_long_tapes(self):
        got = written(TWO, ((1, 2, 3), (4, 0, 2)), ((0,) * 1024, (1, 0) * 512))
        same(self, got[0], ((0, 1), (0, 2), (0, 3)) + ((0, 0),) * 1021)
        same(self, got[1][:8], ((1, 2), (0, 3), (1, 0), (0, 2), (1, 4), (0, 1), (1, 0), (0, 0)))
        same(self, got[1][8:], ((1, 0), (0, 0)) * 508)

    def test_all_batch_numbers(self):
        batches = tuple((b % 5, 1, b % 3) for b in range(64))
        same(self, written(TWO, batches, (tuple(range(63, -1, -1)), ())),
             (tuple((b, b % 5) for b in range(63, -1, -1)), ()))

    def test_missing_batches(self):
        one = ((1, 2, 3),)
        refuses(self, Missing, 1, written, TWO, one, ((0, 1), ()))
        refuses(self, Missing, 2, written, TWO, one, ((0, 7, 9), (0, 2, 5)))
        refuses(self, Missing, 0, written, TWO, (), ((), (0,)))
        refuses(self, Missing, 63, written, TWO, one * 63, ((63,), (5,)))
        same(self, written(TWO, (), ((), ())), ((), ()))
        same(self, written(TWO, one * 64, ((63,), ())), (((63, 1),), ()))

    def test_errors_in_order(self):
        for ground, what in BAD_GROUNDS:
            refuses(self, BadGround, what, written, ground, None, None)
        refuses(self, BadBatches, -1, written, TWO, None, None)
        refuses(self, BadBatches, -1, written, TWO, ((0, 0, 0),) * 65, None)
        refuses(self, BadBatches, 1, written, TWO, ((0, 0, 0), (0, 0)), ((64,), ()))
        refuses(self, BadWeaving, -1, written, TWO, (), ((5,),))
        refuses(self, BadWeaving, 1, written, TWO, (), ((5,), (64,)))


class CellsOf(unittest.TestCase):
    READING = (((0, 1), (1, 4), (0, 2)), ((1, 4), (1, 3), (0, 0), (1, 2)))

    def test_cells_of_one_batch(self):
        same(self, cells_of(TWO, self.READING, (9, 9), 1), ((0, 0, 4), (1, 0, 4), (1, 1, 3), (1, 2, 2)))
        same(self, cells_of(TWO, self.READING, (9, 9), 0), ((0, 0, 1), (0, 1, 2), (1, 0, 0)))
        same(self, cells_of(TWO, self.READING, (9, 9), 2), ())
        same(self, cells_of(TWO, ((), ()), (9, 9), 0), ())

    def test_only_the_first_cells(self):
        same(self, cells_of(TWO, self.READING, (2, 3), 0), ((0, 0, 1), (1, 0, 0)))
        same(self, cells_of(TWO, self.READING, (3, 2), 0), ((0, 0, 1), (0, 1, 2)))
        same(self, cells_of(TWO, self.READING, (0, 4), 1), ((1, 0, 4), (1, 1, 3), (1, 2, 2)))
        same(self, cells_of(TWO, self.READING, (1, 3), 1), ((1, 0, 4), (1, 1, 3)))
        same(self, cells_of(TWO, self.READING, (0, 0), 1), ())

    def test_by_chance(self):
        chance = random.Random(2)
        for _ in range(60):
            reading = tuple(tuple((b, chance.randrange(5)) for b in some_tape(chance, (0, 1, 63), 12)) for _ in GROUND[2])
            lengths = tuple(chance.randint(0, 14) for _ in GROUND[2])
            for b in (0, 1, 2, 63):
                wanted = []
                for shelf in range(4):
                    j = 0
                    for at in range(min(lengths[shelf], len(reading[shelf]))):
                        if reading[shelf][at][0] == b:
                            wanted.append((shelf, j, reading[shelf][at][1]))
                            j += 1
                same(self, cells_of(GROUND, reading, lengths, b), tuple(wanted))

    def test_errors_in_order(self):
        for ground, what in BAD_GROUNDS:
            refuses(self, BadGround, what, cells_of, ground, None, None, None)
        refuses(self, BadReading, -1, cells_of, TWO, None, None, None)
        refuses(self, BadReading, 1, cells_of, TWO, ((), ((0, 5),)), None, 64)
        refuses(self, BadLengths, -1, cells_of, TWO, self.READING, (1,), 64)
        refuses(self, BadLengths, 1, cells_of, TWO, self.READING, (1024, 1025), 64)
        for b in NO_NUMBERS + (None, 64, -1, 10 ** 40):
            refuses(self, BadNumber, b, cells_of, TWO, self.READING, (1024, 1024), b)
        same(self, cells_of(TWO, self.READING, (1024, 1024), 63), ())


class Example(unittest.TestCase):
    def test_3_3(self):
        runs_as_shown(self, """
>>> from firstsafe.tapes import cells_of, written
>>> from firstsafe.stops import stopped
>>> written((5, 3, (0, 1)), ((1, 2, 3), (4, 0, 0)), ((0, 1, 0), (1,)))
(((0, 1), (1, 4), (0, 2)), ((1, 4),))
>>> cells_of((5, 3, (0, 1)), (((0, 1), (1, 4), (0, 2)), ((1, 4),)), (3, 9), 0)
((0, 0, 1), (0, 1, 2))
>>> stopped((5, 3, (0, 1)), (((0, 1), (1, 4), (0, 2)), ((1, 4),)), ((1, ((7, 0),)), (0, ())))
(((0, 1), (7, 0)), ((1, 4),))
""")

    def test_by_name(self):
        same(self, made_weaving(thing=((), ()), ground=TWO), ((), ()))
        same(self, is_weaving(thing=((), ()), ground=TWO), True)
        same(self, made_reading(thing=((), ()), ground=TWO), ((), ()))
        same(self, is_reading(thing=((), ()), ground=TWO), True)
        same(self, weaving_of(reading=((), ()), ground=TWO), ((), ()))
        same(self, written(weaving=((), ()), batches=(), ground=TWO), ((), ()))
        same(self, cells_of(b=0, lengths=(0, 0), reading=((), ()), ground=TWO), ())


if __name__ == "__main__":
    unittest.main()
