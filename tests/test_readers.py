"""What a reading tells of the batches ([7.1], [7.2], [0.3](b) and (e))."""

import random
import unittest
from itertools import product

from firstsafe.bookwords import read_book
from firstsafe.errors import BadBook, BadGround, BadNumber, BadReading, BadWeaving, TooMany
from firstsafe.readers import read, read_all
from firstsafe.rows import row
from firstsafe.safety import safe
from firstsafe.stops import stopped
from firstsafe.tapes import written
from tests.helper import (
    FINE, NO_NUMBERS, batches_of, left, left_of_any, refuses, runs_as_shown, same, some_readings, some_stop)

TWO = (5, 2, (0, 5))
NOTHING = ((FINE, FINE),)
ALL = (None, 0)


def lot_by_worlds(ground, book, stand, reading, b, many):
    """What batch b is in the worlds of `many` batches that leave the reading."""
    found = set()
    for batches, fates in product(product(batches_of(ground[0], ground[1]), repeat=many), book):
        for shelf, cells in enumerate(reading):
            if stand is not None:
                may_lie = left(ground, shelf, batches, stand[shelf], fates[shelf])
            else:
                may_lie = left_of_any(ground, shelf, batches, fates[shelf], len(cells) + min(1, fates[shelf][0] or 0))
            if cells not in may_lie:
                break
        else:
            found.add(batches[b])
    return found


class Lots(unittest.TestCase):
    """On tiny grounds `read` agrees with the list of all worlds."""

    def check_answer(self, got, lot):
        if not lot:
            same(self, got, ("none",))
        elif len(lot) == 1:
            same(self, got, ("told",) + tuple(lot))
        else:
            word, numbers, one, two = got
            shared = tuple(places[0] if len(set(places)) == 1 else None for places in zip(*lot))
            same(self, (word, numbers), ("open", shared))
            self.assertNotEqual(one, two)
            for batch in (one, two):
                self.assertIn(batch, lot)
                self.assertTrue(all(type(number) is int for number in batch))

    def some_reading(self, chance, ground, fates, stand, many):
        """A reading that the row may have left of the weaving, and that may be bent then."""
        batches = tuple(chance.choice(batches_of(ground[0], ground[1])) for _ in range(many))
        reading = written(ground, batches, stand)
        reading = stopped(ground, reading, some_stop(chance, ground, fates, reading))
        if chance.random() < 0.4:
            shelf = chance.randrange(len(reading))
            cells = list(reading[shelf])
            what = chance.random()
            if what < 0.4 and len(cells) < 3:
                cells.append((chance.choice((0, 1)), chance.randrange(ground[0])))
            elif cells:
                at = chance.randrange(len(cells))
                cells[at] = (chance.choice((0, 1)), chance.randrange(ground[0]))
            reading = reading[:shelf] + (tuple(cells),) + reading[shelf + 1:]
        return reading

    def check(self, ground, fates, longest, many, times, seed):
        chance = random.Random(seed)
        seen = {}
        for _ in range(times):
            shelves = len(ground[2])
            book = tuple(tuple(chance.choice(fates) for _ in range(shelves)) for _ in range(chance.randint(1, 3)))
            weaving = tuple(tuple(chance.choice((0, 0, 1)) for _ in range(chance.randint(0, longest)))
                            for _ in range(shelves))
            reading = self.some_reading(chance, ground, chance.choice(book), weaving, 2)
            for stand in (None, weaving):
                for b in range(many):
                    lot = lot_by_worlds(ground, book, stand, reading, b, many)
                    got = read(ground, book, stand, reading, b)
                    self.check_answer(got, lot)
                    seen[stand is None, got[0]] = True
        self.assertEqual(len(seen), 6)

    def test_batches_of_one_number(self):
        self.check((2, 1, (0, 2)), (FINE, (1, 0), (0, 1), ALL, (1, 1), (0, None)), 3, 2, 250, 1)
        self.check((3, 1, (1, 3)), (FINE, FINE, (2, 0), (0, 1), (0, None)), 2, 2, 150, 2)

    def test_batches_of_two_numbers(self):
        self.check((2, 2, (0, 1, 2)), (FINE, FINE, (1, 0), (0, 1), ALL), 2, 2, 300, 3)
        self.check((2, 2, (2, 1)), (FINE, FINE, (0, 2), (0, 1), (2, 0)), 3, 2, 150, 4)
        self.check((3, 2, (0,)), (FINE, (0, 1), (1, 1)), 3, 2, 250, 5)

    def test_batches_of_three_numbers_and_three_batches(self):
        self.check((2, 3, (0, 1)), (FINE, FINE, (1, 0), (0, 1)), 3, 2, 60, 6)
        self.check((2, 1, (0, 1, 2)), (FINE, (1, 0), (0, 1)), 2, 3, 100, 7)


class Answers(unittest.TestCase):
    def test_the_three_answers_without_a_stand(self):
        same(self, read(TWO, NOTHING, None, (((0, 1),), ((0, 2),)), 0), ("told", (1, 2)))
        same(self, read(TWO, NOTHING, None, (((0, 1), (0, 2)), ((0, 3),)), 0), ("none",))
        word, numbers, one, two = read(TWO, NOTHING, None, (((0, 1),), ()), 0)
        same(self, (word, numbers, one[0], two[0]), ("open", (1, None), 1, 1))
        self.assertNotEqual(one, two)

    def test_the_three_answers_with_a_stand(self):
        reading = (((0, 1),), ((0, 2),))
        same(self, read(TWO, NOTHING, ((0,), (0,)), reading, 0), ("told", (1, 2)))
        same(self, read(TWO, NOTHING, ((0, 0), (0,)), reading, 0), ("none",))
        self.assertEqual(read(TWO, NOTHING, ((0,), ()), (((0, 1),), ()), 0)[:2], ("open", (1, None)))

    def test_rows_that_agree_tell(self):
        """Two possible rows with unlike right heads, but the same batch."""
        book = ((FINE, FINE), (FINE, (0, 1)))
        same(self, read(TWO, book, None, (((0, 1), (0, 2)), ((0, 2),)), 0), ("told", (1, 2)))
        same(self, read(TWO, book, None, (((0, 1), (0, 2)), ((0, 3),)), 0), ("told", (1, 2)))

    def test_rows_that_do_not_agree_are_open(self):
        book = ((FINE, (0, None)), ((0, None), FINE))
        word, numbers, one, two = read(TWO, book, None, (((0, 1), (0, 2)), ((0, 3), (0, 1))), 0)
        same(self, (word, numbers), ("open", (1, None)))
        same(self, sorted((one, two)), [(1, 2), (1, 3)])
        word, numbers, one, two = read(TWO, book, None, (((0, 1), (0, 2)), ((0, 3), (0, 4))), 0)
        same(self, (word, numbers), ("open", (None, None)))

    def test_a_flat_and_a_batch_in_it(self):
        book = ((FINE, FINE), (FINE, (0, 1)))
        word, numbers, one, two = read(TWO, book, None, (((0, 1),), ((0, 2),)), 0)
        same(self, (word, numbers), ("open", (1, None)))

    def test_a_clash_of_any_batch_makes_the_row_impossible(self):
        clash = ((9, 1), (9, 2))
        reading = (((0, 1), (0, 2)) + clash, ((9, 4),))
        same(self, read(TWO, NOTHING, None, reading, 0), ("none",))
        same(self, read(TWO, NOTHING, None, reading, 9), ("none",))
        same(self, read(TWO, NOTHING, None, reading, 5), ("none",))
        # Behind the second row the clash is wrong, so only this one counts.
        same(self, read(TWO, NOTHING + (((0, 2), (0, 1)),), None, reading, 0), ("told", (1, 2)))
        same(self, read(TWO, NOTHING + (((0, 0), (0, 1)),), None, reading, 9), ("told", (1, 2)))

    def test_cells_from_k_on_are_zeros(self):
        for j in (0, 1, 7):
            good = ((0, 1), (0, 2)) + ((0, 0),) * (j + 1)
            same(self, read(TWO, NOTHING, None, (good, ()), 0), ("told", (1, 2)))
            same(self, read(TWO, NOTHING, None, (good[:-1] + ((0, 3),), ()), 0), ("none",))
            same(self, read(TWO, (((0, 1), FINE),), None, (good[:-1] + ((0, 3),), ()), 0), ("told", (1, 2)))

    def test_places_are_counted_among_the_cells_of_the_batch(self):
        reading = (((7, 4), (0, 1), (7, 3), (0, 2), (7, 0)), ())
        same(self, read(TWO, NOTHING, None, reading, 0), ("told", (1, 2)))
        same(self, read(TWO, NOTHING, None, reading, 7), ("told", (4, 3)))

    def test_impossible_by_the_lengths(self):
        cells = ((0, 1), (0, 2))
        for fate, stood, wanted in ((FINE, 2, True), (FINE, 1, False), (FINE, 3, False), ((1, 0), 3, True),
                                    ((1, 0), 4, False), ((64, 0), 66, True), ((64, 0), 67, False), (ALL, 1024, True),
                                    (ALL, 1, False), ((3, 0), 0, False), ((3, 3), 1, False), ((None, None), 1, False)):
            got = read((5, 2, (0,)), ((fate,),), ((0,) * stood,), (cells,), 0)
            same(self, got[0], "none" if not wanted else "open" if fate[1] is None else "told")
            same(self, read((5, 2, (0,)), ((FINE,), (fate,)), ((0,) * stood,), (cells,), 0)[0],
                 "told" if wanted or stood == 2 else "none")

    def test_impossible_by_the_batch_numbers(self):
        ground, cells = (5, 1, (0,)), ((0, 1), (7, 2), (0, 0))
        for stood, fate, wanted in (((0, 7, 0), FINE, True), ((0, 7, 0, 9), FINE, False), ((0, 7, 0, 9), (1, 0), True),
                                    ((0, 7, 7), FINE, False), ((0, 7, 7), (0, 1), True), ((0, 0, 7), (0, 1), False),
                                    ((0, 0, 7), (0, 2), True), ((7, 0, 0), (0, 2), False)):
            same(self, read(ground, ((fate,),), (stood,), (cells,), 0), ("told", (1,)) if wanted else ("none",))
        same(self, read(ground, (((0, 3),),), ((5, 5, 5),), (cells,), 0)[:2], ("open", (None,)))

    def test_impossible_at_any_shelf(self):
        reading = (((0, 1),), ((0, 2),))
        for stand in (((0,), (0, 0)), ((0, 0), (0,)), ((), (0,)), ((0,), (1,)), ((1,), (0,))):
            same(self, read(TWO, NOTHING, stand, reading, 0), ("none",))

    def test_equal_right_heads_of_a_possible_and_an_impossible_row(self):
        reading, stand = (((0, 1), (0, 2)), ()), ((0, 0, 0), ())
        for book in ((((0, 0), FINE), ((1, 0), FINE)), (((1, 0), FINE), ((0, 0), FINE))):
            same(self, read(TWO, book, stand, reading, 0), ("told", (1, 2)))

    def test_a_batch_without_a_cell(self):
        for b in (1, 63):
            word, numbers, one, two = read(TWO, NOTHING, None, (((0, 1),), ((0, 2),)), b)
            same(self, (word, numbers), ("open", (None, None)))
            self.assertNotEqual(one, two)
        same(self, read(TWO, (((0, 1), (0, None)),), None, (((0, 1),), ((0, 2),)), 0)[:2], ("open", (None, None)))

    def test_a_reading_without_cells(self):
        for stand, word in ((None, "open"), (((), ()), "open"), (((0,), ()), "none"), (((0,), (1,)), "none")):
            same(self, read(TWO, NOTHING, stand, ((), ()), 0)[0], word)
        same(self, read(TWO, ((ALL, ALL),), ((0,) * 9, (1,) * 1024), ((), ()), 0)[:2], ("open", (None, None)))

    def test_small_primes(self):
        ground = (2, 2, (0, 1, 2))
        same(self, read(ground, ((FINE,) * 3,), None, (((0, 1),), ((0, 0),), ((0, 1),)), 0), ("told", (1, 1)))
        same(self, read(ground, ((FINE,) * 3,), None, (((0, 1),), ((0, 1),), ((0, 1),)), 0), ("none",))

    def test_24_rows_8_shelves_and_full_tapes(self):
        ground = (65521, 12, (65521, 0, 65520, 1, 2, 3, 4, 5))
        book = tuple(((n, 24 - n),) * 8 for n in range(24))
        chance = random.Random(5)
        batches = tuple(tuple(chance.randrange(65521) for _ in range(12)) for _ in range(64))
        weaving = tuple(tuple((n * (shelf + 1) + n // 64) % 64 for n in range(1024)) for shelf in range(8))
        reading = stopped(ground, written(ground, batches, weaving), ((20, ((3, 3),) * 4),) * 8)
        for stand in (None, weaving):
            same(self, read_all(ground, book, stand, reading), tuple(("told", batch) for batch in batches))


class ReadAll(unittest.TestCase):
    def test_each_batch_to_the_greatest(self):
        reading = (((0, 1), (3, 4)), ((0, 2), (3, 4)))
        got = read_all(TWO, NOTHING, None, reading)
        self.assertEqual([answer[0] for answer in got], ["told", "open", "open", "told"])
        same(self, got, tuple(read(TWO, NOTHING, None, reading, b) for b in range(4)))
        self.assertEqual(len(read_all((5, 1, (0,)), ((FINE,),), None, (((63, 1), (0, 1)),))), 64)

    def test_cells_that_are_not_right_count_too(self):
        self.assertEqual(len(read_all(TWO, (((0, None), FINE),), None, (((9, 1),), ()))), 10)
        same(self, read_all(TWO, NOTHING, ((0,), ()), (((2, 1),), ())), (("none",),) * 3)

    def test_no_cells(self):
        same(self, read_all(TWO, NOTHING, None, ((), ())), ())
        same(self, read_all(TWO, NOTHING, ((0,), ()), ((), ())), ())

    def test_by_chance_with_a_stand_and_without(self):
        for ground, book, told, weaving, _, reading in some_readings(7, 250):
            stand = weaving if told else None
            got = read_all(ground, book, stand, reading)
            greatest = max([b for cells in reading for b, _ in cells], default=-1)
            same(self, got, tuple(read(ground, book, stand, reading, b) for b in range(greatest + 1)))


class SafeBatches(unittest.TestCase):
    def test_a_safe_batch_is_told_and_what_is_told_is_right(self):
        seen = {}
        for ground, book, told, weaving, batches, reading in some_readings(9, 1500):
            for b in (0, 1, 7):
                is_safe = safe(ground, book, told, weaving, b)
                answer = read(ground, book, weaving if told else None, reading, b)
                seen[is_safe, answer[0]] = seen.get((is_safe, answer[0]), 0) + 1
                if answer[0] == "told":
                    same(self, answer, ("told", batches[b]))
        self.assertEqual(sorted(seen), [(False, "open"), (False, "told"), (True, "told")])
        self.assertGreater(min(seen.values()), 100)

    def test_lose_any_1(self):
        ground, book = (3, 2, (0, 1, 2, 3)), read_book(("a", "b", "c", "d"), "lose any 1")
        for batch in batches_of(3, 2):
            cells = tuple(((0, row(ground, batch, shelf, 1)[0]),) for shelf in range(4))
            for lost in range(4):
                reading = cells[:lost] + ((),) + cells[lost + 1:]
                same(self, read(ground, book, None, reading, 0), ("told", batch))


class Errors(unittest.TestCase):
    def test_in_order(self):
        for call, more in ((read, (64,)), (read_all, ())):
            for wrong, what in ((None, -1), ((4, 1, (0,)), 0), ((5, 0, (0,)), 1), ((5, 1, (0, 0)), 2)):
                refuses(self, BadGround, what, call, wrong, None, 0, None, *more)
            for wrong, what in ((None, -1), ((), -1), (((FINE,),), 0), ((NOTHING[0], ((65, 0), FINE)), 1)):
                refuses(self, BadBook, what, call, TWO, wrong, 0, None, *more)
            refuses(self, TooMany, 25, call, TWO, NOTHING * 25, 0, None, *more)
            for wrong, what in ((False, -1), (0, -1), ((), -1), (((0,),), -1), (((0,), (64,)), 1), (((None,), ()), 0)):
                refuses(self, BadWeaving, what, call, TWO, NOTHING, wrong, None, *more)
            for stand in (None, ((0,), ())):
                for wrong, what in ((None, -1), ((), -1), (((),), -1), ((((0, 5),), ()), 0), (((), ((64, 0),)), 1),
                                    (((), ((0, 0),) * 1025), 1), (([], ()), 0), (((0,), ()), 0)):
                    refuses(self, BadReading, what, call, TWO, NOTHING, stand, wrong, *more)
        for b in NO_NUMBERS + (None, 64, -1, 10 ** 40):
            refuses(self, BadNumber, b, read, TWO, NOTHING, None, ((), ()), b)
            refuses(self, BadNumber, b, read, TWO, NOTHING, ((0,), ()), ((), ()), b)

    def test_by_name(self):
        same(self, read(b=0, reading=(((0, 1),), ((0, 2),)), stand=None, book=NOTHING, ground=TWO), ("told", (1, 2)))
        same(self, read_all(reading=((), ()), stand=None, book=NOTHING, ground=TWO), ())


class Example(unittest.TestCase):
    def test_of_the_interface(self):
        runs_as_shown(self, """
>>> from firstsafe.readers import read
>>> ground = (3, 2, (0, 1, 2, 3))
>>> lose_one = (((None, 0), (0, 0), (0, 0), (0, 0)), ((0, 0), (None, 0), (0, 0), (0, 0)))
>>> read(ground, lose_one, None, (((0, 1),), ((0, 0),), (), ()), 0)
('told', (1, 2))
>>> read(ground, lose_one, None, (((0, 1), (0, 2)), ((0, 1),), (), ()), 0)
('none',)
>>> read(ground, lose_one, None, (((0, 1),), (), (), ()), 0)[:2]
('open', (1, None))
""")


if __name__ == "__main__":
    unittest.main()
