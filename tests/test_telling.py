"""Papers, as they are returned ([7.3])."""

import random
import unittest

from firstsafe.errors import BadBook, BadGround, BadNumber, BadReading, BadWeaving, Open, TooMany
from firstsafe.readers import read
from firstsafe.stops import stopped
from firstsafe.tapes import written
from firstsafe.telling import told_paper
from tests.helper import FINE, NO_NUMBERS, paper_is_right, refuses, same, some_book, some_readings, some_stop

TWO = (5, 2, (0, 5))
NOTHING = ((FINE, FINE),)


class Papers(unittest.TestCase):
    def check(self, ground, book, stand, reading, b):
        """A right paper if the batch is told, otherwise Open(0); the kinds of its entries."""
        answer = read(ground, book, stand, reading, b)
        if answer[0] != "told":
            refuses(self, Open, 0, told_paper, ground, book, stand, reading, b)
            return (answer[0],)
        paper = told_paper(ground, book, stand, reading, b)
        self.assertTrue(paper_is_right(ground, book, stand, reading, b, answer[1], paper))
        same(self, told_paper(ground, book, stand, reading, b), paper)
        return tuple(entry[0] for entry in paper)

    def test_by_chance(self):
        seen = {}
        for ground, book, told, weaving, _, reading in some_readings(2, 1500):
            for b in (0, 1, 7):
                for word in self.check(ground, book, weaving if told else None, reading, b):
                    seen[told, word] = seen.get((told, word), 0) + 1
        # Of the six kinds only ("none",) is not to be had, as the row that was chosen is possible.
        self.assertEqual(sorted(seen), [(False, "is"), (False, "no"), (False, "open"),
                                        (True, "far"), (True, "is"), (True, "no"), (True, "open")])
        self.assertGreater(min(seen.values()), 20)

    def test_small_and_large_primes(self):
        chance = random.Random(3)
        seen = set()
        for ground in ((2, 1, (0, 1, 2)), (2, 4, (2, 1)), (3, 3, (3, 0, 1, 2)), (65521, 12, (65521, 0, 65520, 7)),
                       (7, 4, (6,)), (7, 6, tuple(range(8)))):
            p, k, points = ground
            for _ in range(60):
                book = some_book(chance, len(points), 4)
                weaving = tuple(tuple(chance.choice((0, 0, 0, 5)) for _ in range(chance.randint(k, k + 9)))
                                for _ in points)
                batches = tuple(tuple(chance.randrange(p) for _ in range(k)) for _ in range(6))
                reading = written(ground, batches, weaving)
                reading = stopped(ground, reading, some_stop(chance, ground, chance.choice(book), reading))
                for stand in (None, weaving):
                    seen.update(self.check(ground, book, stand, reading, 0))
        self.assertEqual(seen, {"is", "no", "far", "open"})

    def test_all_three_kinds_in_one_paper(self):
        stand = ((0, 0, 0, 9), (0, 9))
        reading = (((0, 1), (0, 2), (0, 3)), ((0, 2), (9, 4)))
        book = (((1, 0), FINE), ((1, 1), FINE), ((0, 1), FINE), (FINE, FINE), ((64, 3), FINE))
        kinds = self.check(TWO, book[:4], stand, reading, 0)
        same(self, kinds, ("no", "is", "far", "far"))
        same(self, self.check(TWO, book, stand, reading, 0), ("open",))
        same(self, self.check(TWO, book[:4], None, reading, 0), ("no", "is", "is", "no"))

    def test_far_by_each_shelf(self):
        reading = (((0, 1), (0, 2), (9, 4)), ((9, 3),))
        for stand, shelf, fates in ((((0, 0, 0), (9,)), 0, ((0, 1), FINE)), (((0, 0, 9), (8,)), 1, (FINE, (0, 1))),
                                    (((0, 0, 9, 9), (9,)), 0, ((1, 0), FINE)), (((0, 0, 9), (9, 9)), 1, (FINE, (1, 0))),
                                    (((0, 0, 9, 0), (9, 0)), 0, ((None, 0), (None, 0)))):
            book = (NOTHING[0], fates)
            same(self, self.check(TWO, book, stand, reading, 0), ("far", "is"))
            same(self, told_paper(TWO, book, stand, reading, 0)[0], ("far", shelf))
        # No row leaves more cells than there were.
        for stand in (((0, 0), (9,)), ((0, 0, 9), ())):
            same(self, self.check(TWO, (((None, None), (None, None)), NOTHING[0]), stand, reading, 0), ("none",))

    def test_clashes_of_each_batch(self):
        """The clash may be of the batch itself, of a lower one or of a higher one, at places below k and from k on."""
        for c in (0, 1, 5, 63):
            for clash in (((c, 1), (c, 2), (c, 3)), ((c, 0),) * 9 + ((c, 4),)):
                reading = (((5, 1), (5, 2)) + clash, ())
                book = (((0, len(clash)), FINE), (FINE, FINE))
                if c != 5:
                    kinds = self.check(TWO, book, None, reading, 5)
                    same(self, kinds, ("is", "no"))
                    paper = told_paper(TWO, book, None, reading, 5)
                    same(self, paper[1][:2], ("no", c))
        reading = (((5, 1), (5, 2), (5, 0), (5, 3)), ((5, 2),))
        same(self, self.check(TWO, (((0, 1), FINE), (FINE, FINE)), None, reading, 5), ("is", "no"))
        reading = (((5, 1), (5, 2)), ((5, 3),))
        same(self, self.check(TWO, ((FINE, (0, 1)), (FINE, FINE)), None, reading, 5), ("is", "no"))

    def test_one_factor_for_each_cell(self):
        reading = (((0, 1), (7, 1), (0, 2), (0, 0)), ((0, 2), (0, 1), (0, 0)))
        paper = told_paper(TWO, (((0, 0), (0, 0)), ((0, 1), (0, 0)), ((0, 0), (0, None))), None, reading, 0)
        same(self, [[len(factors) for factors in entry[1]] for entry in paper], [[6, 6], [5, 5], [3, 3]])

    def test_24_rows_8_shelves_and_full_tapes(self):
        ground = (65521, 12, (65521, 0, 65520, 1, 2, 3, 4, 5))
        book = tuple(((n, 24 - n),) * 8 for n in range(24))
        chance = random.Random(5)
        batches = tuple(tuple(chance.randrange(65521) for _ in range(12)) for _ in range(64))
        weaving = tuple(tuple((n * (shelf + 1) + n // 64) % 64 for n in range(1024)) for shelf in range(8))
        reading = stopped(ground, written(ground, batches, weaving), ((10, ((3, 3),) * 4),) * 8)
        kinds = self.check(ground, book, None, reading, 63)
        same(self, kinds, ("is",) * 21 + ("no",) * 3)
        same(self, self.check(ground, book, weaving, reading, 63), ("far",) * 10 + ("is",) * 11 + ("far",) * 3)


class Opens(unittest.TestCase):
    def test_the_other_two_answers(self):
        for stand in (None, ((0, 0), (0,))):
            reading = (((0, 1), (0, 2)), ((0, 3),))
            same(self, read(TWO, NOTHING, stand, reading, 0), ("none",))
            refuses(self, Open, 0, told_paper, TWO, NOTHING, stand, reading, 0)
        for b in (0, 1):
            refuses(self, Open, 0, told_paper, TWO, NOTHING, None, (((0, 1),), ()), b)
        refuses(self, Open, 0, told_paper, TWO, NOTHING, None, ((), ()), 0)

    def test_errors_in_order(self):
        for wrong, what in ((None, -1), ((4, 1, (0,)), 0), ((5, 0, (0,)), 1), ((5, 1, (0, 0)), 2)):
            refuses(self, BadGround, what, told_paper, wrong, None, 0, None, 64)
        for wrong, what in ((None, -1), ((), -1), (((FINE,),), 0), ((NOTHING[0], ((65, 0), FINE)), 1)):
            refuses(self, BadBook, what, told_paper, TWO, wrong, 0, None, 64)
        refuses(self, TooMany, 25, told_paper, TWO, NOTHING * 25, 0, None, 64)
        for wrong, what in ((False, -1), (0, -1), ((), -1), (((0,),), -1), (((0,), (64,)), 1)):
            refuses(self, BadWeaving, what, told_paper, TWO, NOTHING, wrong, None, 64)
        for stand in (None, ((0,), ())):
            for wrong, what in ((None, -1), ((), -1), (((),), -1), ((((0, 5),), ()), 0), (((), ((64, 0),)), 1)):
                refuses(self, BadReading, what, told_paper, TWO, NOTHING, stand, wrong, 64)
        for b in NO_NUMBERS + (None, 64, -1, 10 ** 40):
            refuses(self, BadNumber, b, told_paper, TWO, NOTHING, None, ((), ()), b)

    def test_by_name(self):
        paper = told_paper(b=0, reading=(((0, 1),), ((0, 2),)), stand=None, book=NOTHING, ground=TWO)
        same(self, paper, (("is", ((1, 0), (0, 1))),))


if __name__ == "__main__":
    unittest.main()
