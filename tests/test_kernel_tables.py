"""The judges of locators, of doubts of layings and of blind layings ([8.4], [10.2], [10.3], [0.2])."""

import random
import unittest
from itertools import product

from firstsafe.forms import times
from firstsafe.kernel import blind_right, laying_doubt_right, locator_right
from firstsafe.layings import first_blind, laying_doubt, laying_of
from firstsafe.locators import locator
from firstsafe.rows import row
from tests.helper import (
    FINE, NO_NUMBERS, STRANGE, TOLD, batches_of, equal_batches, is_locator, judged, judged_false, laying_heads,
    lengths_of, same, some_fates, some_laying, spoiled, torn_rows)

GROUND = (5, 2, (0, 1, 5))
SIZES = ((2, 1), (2, 2), (3, 1), (2, 3), (4, 1), (3, 2))


class LocatorRight(unittest.TestCase):
    def some_locators(self, seed, times_each):
        chance = random.Random(seed)
        for ground in ((2, 1, (0, 1, 2)), (2, 3, (2, 0)), (3, 2, (3, 0, 1, 2)), (5, 2, (0, 1, 5)), (65521, 4, (65521, 7))):
            p, k, points = ground
            for _ in range(times_each):
                w = chance.randint(0, 3)
                lengths = [chance.choice((0, 1, 2, 4)) for _ in points]
                lengths[0] += max(0, 2 * w + k - sum(lengths))
                batch = tuple(chance.randrange(p) for _ in range(k))
                rows = torn_rows(chance, ground, batch, lengths, chance.randint(0, w + 1))
                found = locator(ground, rows, w)
                if found is not None:
                    yield ground, rows, w, found

    def test_what_is_returned(self):
        for case in self.some_locators(1, 60):
            same(self, locator_right(*case), True)

    def test_multiples_are_right_too(self):
        for ground, rows, w, (E, F) in self.some_locators(2, 40):
            for factor in range(1, min(ground[0], 7)):
                other = tuple(tuple(number * factor % ground[0] for number in form) for form in (E, F))
                same(self, locator_right(ground, rows, w, other), True)
            zeros = ((0,) * (w + 1), (0,) * (w + ground[1]))
            same(self, locator_right(ground, rows, w, zeros), False)

    def test_numbers_that_are_not_below_p(self):
        for ground, rows, w, (E, F) in self.some_locators(7, 10):
            for turn in (ground[0], -ground[0]):
                for at in range(w + 1):
                    other = (E[:at] + (E[at] + turn,) + E[at + 1:], F)
                    same(self, locator_right(ground, rows, w, other), False)
                for at in range(w + ground[1]):
                    other = (E, F[:at] + (F[at] + turn,) + F[at + 1:])
                    same(self, locator_right(ground, rows, w, other), False)

    def test_all_of_a_tiny_ground(self):
        """Where no cell is torn, each E has its F, and no other one."""
        ground, batch = (2, 2, (0, 1, 2)), (1, 1)
        rows = tuple(row(ground, batch, shelf, 2) for shelf in range(3))
        right = 0
        for E, F in product(product(range(2), repeat=3), product(range(2), repeat=4)):
            answer = locator_right(ground, rows, 2, (E, F))
            same(self, answer, any(E) and F == times(2, E, batch))
            same(self, answer, is_locator(ground, rows, 2, E, F))
            right += answer
        self.assertEqual(right, 7)

    def test_one_part_bent(self):
        said = {True: 0, False: 0}
        for case in self.some_locators(3, 40):
            ground, rows, w, _ = case
            answers = judged(self, locator_right, case, 3, lambda other: (
                len(other) == 2 and is_locator(ground, rows, w, other[0], other[1])))
            for answer in said:
                said[answer] += answers[answer]
        self.assertGreater(said[True], 20)
        self.assertGreater(said[False], 1000)

    def test_bent_rows_and_another_w(self):
        said = {True: 0, False: 0}
        for ground, rows, w, found in self.some_locators(4, 30):
            p, k, points = ground
            answers = judged(self, locator_right, (ground, rows, w, found), 1, lambda other: (
                len(other) == len(points) and all(0 <= number < p for numbers in other for number in numbers)
                and 2 * w + k <= sum(map(len, other)) and is_locator(ground, other, w, *found)))
            for answer in said:
                said[answer] += answers[answer]
            for other in range(w + 3):
                same(self, locator_right(ground, rows, other, found), other == w)
        self.assertGreater(min(said.values()), 30)

    def test_too_few_cells(self):
        """2 * w + k cells just, and one fewer: the same pair then is no locator."""
        for w in (0, 1, 5, 24):
            need = 2 * w + 2
            lengths = (need // 3, need // 3, need - need // 3 * 2)
            rows = tuple(row(GROUND, (3, 4), shelf, length) for shelf, length in enumerate(lengths))
            found = locator(GROUND, rows, w)
            same(self, locator_right(GROUND, rows, w, found), True)
            same(self, locator_right(GROUND, rows[:2] + (rows[2][:-1],), w, found), False)

    def test_a_locator_without_a_batch(self):
        """Rows for which there is a locator, but no batch; it is right all the same."""
        chance, seen = random.Random(5), 0
        for _ in range(200):
            rows = tuple(tuple(chance.randrange(2) for _ in range(2)) for _ in range(3))
            found = locator((2, 2, (0, 1, 2)), rows, 2)
            if found is not None and all(times(2, found[0], batch) != found[1] for batch in batches_of(2, 2)):
                same(self, locator_right((2, 2, (0, 1, 2)), rows, 2, found), True)
                seen += 1
        self.assertGreater(seen, 5)

    def test_full_rows(self):
        ground = (65521, 12, (65521, 0, 65520, 1, 2, 3, 4, 5))
        chance = random.Random(6)
        rows = torn_rows(chance, ground, tuple(range(12)), (64,) * 8, 24)
        E, F = locator(ground, rows, 24)
        same(self, locator_right(ground, rows, 24, (E, F)), True)
        same(self, locator_right(ground, rows, 24, (E, F[:-1] + ((F[-1] + 1) % 65521,))), False)

    def test_arguments_of_a_wrong_form(self):
        rows = ((1, 1, 0), (2, 1), (1, 3))
        case = (GROUND, rows, 1, locator(GROUND, rows, 1))
        judged_false(self, locator_right, case, (
            STRANGE + ((4, 2, (0, 1, 5)), (5, 2, (0, 1, 6)), (5, 2, (0, 1, 1)), (5, 2)) + tuple(spoiled(GROUND)),
            STRANGE + (rows[:2], rows + ((),), (rows[0] + (0,) * 62,) + rows[1:], ((1, 6, 0),) + rows[1:]) +
            tuple(spoiled(rows)), NO_NUMBERS + (None, -1, 25, 10 ** 40),
            STRANGE + (case[3] + ((),), case[3][:1]) + tuple(spoiled(case[3]))))

    def test_by_name(self):
        same(self, locator_right(thing=((1,), (1, 2)), w=0, rows=((1, 2), ()), ground=(5, 2, (0, 5))), True)


class LayingDoubtRight(unittest.TestCase):
    def is_doubt(self, laying, book, told, thing):
        """True if the thing is a doubt by the words of [10.2]."""
        if len(thing) != 4:
            return False
        i, j, x, y = thing
        return 0 <= i < len(book) and 0 <= j < len(book) and 0 <= x < y < laying[0] ** laying[1] and equal_batches(
            laying, laying_heads(laying, book[i], book[j], told), x, y)

    def test_all_tuples_of_small_layings(self):
        chance = random.Random(11)
        said = {True: 0, False: 0}
        for q, k in SIZES:
            for _ in range(12):
                shelves, told = chance.randint(1, 3), chance.choice(TOLD)
                laying, book = some_laying(chance, q, k, shelves, 4), some_fates(chance, shelves, 3)
                numbers, indexes = range(-1, q ** k + 1), range(-1, len(book) + 1)
                least = None
                for thing in product(indexes, indexes, numbers, numbers):
                    answer = laying_doubt_right(laying, book, told, thing)
                    same(self, answer, self.is_doubt(laying, book, told, thing))
                    said[answer] += 1
                    if answer and least is None:
                        least = thing
                same(self, laying_doubt(laying, book, told), least)
        self.assertGreater(min(said.values()), 500)

    def test_one_part_bent(self):
        chance = random.Random(12)
        seen = 0
        for q, k in SIZES + ((5, 2), (6, 2), (4, 4)):
            for _ in range(20):
                shelves, told = chance.randint(1, 4), chance.choice(TOLD)
                laying, book = some_laying(chance, q, k, shelves, 8), some_fates(chance, shelves, 3)
                found = laying_doubt(laying, book, told)
                if found is not None:
                    judged(self, laying_doubt_right, (laying, book, told, found), 3,
                           lambda other: self.is_doubt(laying, book, told, other))
                    seen += 1
        self.assertGreater(seen, 50)

    def test_arguments_of_a_wrong_form(self):
        laying, book = (2, 1, (((0, 1),), ((1, 0), (0, 0)))), ((FINE, FINE), ((None, 0), (2, 0)))
        for told in TOLD:
            case = (laying, book, told, (1, 1, 0, 1))
            judged_false(self, laying_doubt_right, case, (
                STRANGE + ((2, 2) + laying[2:], (8, 1) + laying[2:], laying[:2] + (laying[2][:1],)) + tuple(spoiled(laying)),
                STRANGE + (book * 13,) + tuple(spoiled(book, ())), (None, 0, 1, "", "True", (), (told,), [told], 2),
                STRANGE + ((1, 1, 0), (1, 1, 0, 1, 0), (1, 1, 1, 0), (1, 1, 0, 0)) + tuple(spoiled((1, 1, 0, 1)))))

    def test_by_name(self):
        same(self, laying_doubt_right(thing=(0, 0, 0, 1), told=False, book=((FINE,),), laying=(2, 1, ((),))), True)


class BlindRight(unittest.TestCase):
    def is_blind(self, laying, thing):
        """True if the thing shows that the laying is blind by the words of [10.3]."""
        if len(thing) != 3 or type(thing[0]) is not tuple or len(thing[0]) != len(laying[2]):
            return False
        lengths, x, y = thing
        return all(0 <= length <= len(columns) for length, columns in zip(lengths, laying[2])) and sum(
            lengths) == laying[1] and 0 <= x < y < laying[0] ** laying[1] and equal_batches(laying, lengths, x, y)

    def test_all_tuples_of_small_layings(self):
        chance = random.Random(13)
        said = {True: 0, False: 0}
        for q, k in SIZES:
            for _ in range(15):
                laying = some_laying(chance, q, k, chance.randint(1, 3), 4)
                numbers, least = range(-1, q ** k + 1), None
                for total in range(k + 2):
                    for lengths in lengths_of(len(laying[2]), total):
                        for x, y in product(numbers, repeat=2):
                            answer = blind_right(laying, (lengths, x, y))
                            same(self, answer, self.is_blind(laying, (lengths, x, y)))
                            said[answer] += 1
                            if answer and least is None:
                                least = (lengths, x, y)
                same(self, first_blind(laying), least)
        self.assertGreater(min(said.values()), 200)

    def test_one_part_bent(self):
        chance = random.Random(14)
        seen = 0
        for q, k in SIZES + ((5, 2), (6, 2), (4, 4)):
            for _ in range(20):
                laying = some_laying(chance, q, k, chance.randint(1, 5), 8)
                found = first_blind(laying)
                if found is not None:
                    same(self, blind_right(laying, found), True)
                    judged(self, blind_right, (laying, found), 1, lambda other: self.is_blind(laying, other))
                    seen += 1
        self.assertGreater(seen, 50)

    def test_lengths_beyond_the_columns(self):
        laying = (2, 2, (((0, 0, 0, 0),), ((0, 0, 0, 0), (0, 1, 0, 1))))
        for lengths, wanted in (((1, 1), True), ((0, 2), True), ((2, 0), False), ((0, 1), False), ((1, 2), False),
                                ((3, -1), False), ((-1, 3), False), ((1,), False), ((1, 1, 0), False)):
            same(self, blind_right(laying, (lengths, 0, 2)), wanted)
        same(self, blind_right(laying, ((0, 2), 0, 1)), False)
        same(self, blind_right(laying, ((0, 2), 2, 0)), False)

    def test_nothing_shows_that_the_laying_of_a_ground_is_blind(self):
        laying = laying_of((3, 2, (0, 1, 2, 3)), (2, 2, 2, 2))
        for lengths in lengths_of(4, 2):
            for x, y in product(range(9), repeat=2):
                same(self, blind_right(laying, (lengths, x, y)), False)

    def test_arguments_of_a_wrong_form(self):
        laying = (2, 2, (((0, 0, 0, 0),), ((0, 0, 0, 0), (0, 1, 0, 1))))
        thing = ((1, 1), 0, 2)
        judged_false(self, blind_right, (laying, thing), (
            STRANGE + ((2, 3) + laying[2:], (8, 1) + laying[2:], laying[:2] + (laying[2][:1],)) + tuple(spoiled(laying)),
            STRANGE + (((1, 1), 0), ((1, 1), 0, 2, 0), ((1, 1), 2, 0), ((1, 1), 0, 0), ((1, 1), 0, 4)) +
            tuple(spoiled(thing))))

    def test_by_name(self):
        same(self, blind_right(thing=((1,), 0, 1), laying=(2, 1, (((0, 0),),))), True)


if __name__ == "__main__":
    unittest.main()
