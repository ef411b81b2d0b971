"""Layings by tables ([10] to [10.4], [0.3](c))."""

import random
import unittest
from itertools import combinations, product

from firstsafe.errors import BadBook, BadGround, BadLaying, BadLengths, BadTold, NotSo, TooMany
from firstsafe.layings import first_blind, is_laying, laying_doubt, laying_of, laying_safe, made_laying
from firstsafe.rows import cell
from firstsafe.safety import safe
from tests.helper import (
    FINE, STRANGE, TOLD, batches_of, equal_batches, laying_heads, lengths_of, nested, refuses, runs_as_shown, same,
    some_fates, some_laying, spoiled)

SMALL = (2, 1, (((0, 1),), ((1, 0), (0, 0))))
SIZES = ((2, 1), (2, 2), (3, 1), (2, 3), (4, 1), (3, 2), (6, 1), (5, 2))


def column(q, k):
    """A column for batches of k numbers below q."""
    return tuple(x % q for x in range(q ** k))


class Layings(unittest.TestCase):
    def test_layings_are_returned(self):
        for laying in (SMALL, (2, 1, ((),)), (7, 2, ((column(7, 2),) * 8,) * 8), (4, 4, ((), (column(4, 4),))),
                       (2, 4, ((column(2, 4),),)), (6, 3, ((column(6, 3),),)), (3, 4, ((column(3, 4),),))):
            same(self, made_laying(laying), laying)
            same(self, is_laying(laying), True)

    def test_others_are_refused_at_their_first_bad_part(self):
        pair = (0, 1)
        for thing, what in (
                (None, -1), ((), -1), ((2, 1), -1), ((2, 1, ((pair,),), 0), -1), ([2, 1, ((pair,),)], -1), ("abc", -1),
                ((1, 1, ((pair,),)), 0), ((8, 1, None), 0), ((0, 9, None), 0), ((True, 1, None), 0), ((None, 1, None), 0),
                (("2", 1, ((pair,),)), 0), ((10 ** 40, 1, None), 0), ((-2, 1, None), 0),
                ((2, 0, None), 1), ((2, 5, None), 1), ((5, 4, None), 1), ((7, 3, None), 1), ((6, 4, ()), 1),
                ((2, True, None), 1), ((2, None, None), 1), ((2, 10 ** 40, None), 1), ((2, (1,), None), 1),
                ((2, 1, None), 2), ((2, 1, ()), 2), ((2, 1, ((),) * 9), 2), ((2, 1, [(pair,)]), 2), ((2, 1, "ab"), 2),
                ((2, 1, 7), 2), ((2, 1, (None,)), (2, 0)), ((2, 1, ((), (pair,) * 9)), (2, 1)),
                ((2, 1, ((pair,), ((0,),), None)), (2, 1)), ((2, 1, ((pair, (0, 1, 0)),)), (2, 0)),
                ((2, 1, ((), ((0, 2),))), (2, 1)), ((2, 1, ((), (), ((-1, 0),))), (2, 2)), ((2, 1, (((0, True),),)), (2, 0)),
                ((2, 1, ([pair],)), (2, 0)), ((2, 1, (([0, 1],),)), (2, 0)), ((2, 1, (pair,)), (2, 0)),
                ((2, 1, ((pair,),) * 7 + (nested(18),)), (2, 7)), ((2, 2, ((pair,),)), (2, 0)),
                ((2, 1, ((pair,), (None,))), (2, 1))):
            refuses(self, BadLaying, what, made_laying, thing)
            refuses(self, BadLaying, what, first_blind, thing)
            same(self, is_laying(thing), False)

    def test_sizes(self):
        for q in range(9):
            for k in range(6):
                fits = 2 <= q <= 7 and 1 <= k <= 4 and q ** k <= 256
                self.assertEqual(is_laying((q, k, ((column(q, k) if q else (),),))), fits)

    def test_strange_things_are_refused(self):
        for thing in STRANGE + tuple(spoiled(SMALL)):
            with self.assertRaises(BadLaying):
                made_laying(thing)
            same(self, is_laying(thing), False)

    def test_by_name(self):
        same(self, made_laying(thing=SMALL), SMALL)
        same(self, is_laying(thing=SMALL), True)


class OfGrounds(unittest.TestCase):
    def test_columns_are_the_cells_of_all_batches(self):
        for ground, lengths in (((2, 2, (0, 1, 2)), (1, 1, 1)), ((5, 2, (0, 5, 3)), (0, 3, 8)), ((7, 1, (7,)), (2,)),
                                ((2, 4, (2, 0)), (8, 8)), ((3, 4, (1, 3, 0)), (5, 4, 0)), ((7, 2, (6, 0)), (2, 3))):
            p, k, points = ground
            wanted = (p, k, tuple(tuple(tuple(cell(ground, batch, shelf, j) for batch in batches_of(p, k))
                                        for j in range(length)) for shelf, length in enumerate(lengths)))
            same(self, laying_of(ground, lengths), wanted)
            same(self, is_laying(wanted), True)

    def test_grounds_and_lengths_without_one(self):
        for ground, lengths in (((11, 1, (0,)), (1,)), ((65521, 12, (0, 1)), (0, 0)), ((2, 5, (0,)), (1,)),
                                ((5, 4, (0,)), (1,)), ((7, 3, (0,)), (1,)), ((2, 1, (0, 1)), (9, 0)),
                                ((2, 1, (0, 1)), (0, 9)), ((2, 1, (0, 1)), (8, 1024))):
            refuses(self, NotSo, 0, laying_of, ground, lengths)
        for ground, lengths in (((7, 2, (0,)), (8,)), ((5, 3, (0,)), (8,)), ((2, 4, (0, 1)), (8, 0)), ((3, 4, (0,)), (0,))):
            same(self, is_laying(laying_of(ground, lengths)), True)

    def test_errors_in_order(self):
        for ground, what in ((None, -1), ((4, 1, (0,)), 0), ((5, 0, (0,)), 1), ((5, 1, (0, 0)), 2)):
            refuses(self, BadGround, what, laying_of, ground, None)
        for lengths, what in ((None, -1), ((1,), -1), ((1, 1025), 1), ((True, 0), 0), ([0, 0], -1), ((0, -1), 1)):
            refuses(self, BadLengths, what, laying_of, (11, 2, (0, 5)), lengths)
        refuses(self, NotSo, 0, laying_of, (11, 2, (0, 5)), (1024, 0))

    def test_by_name(self):
        same(self, laying_of(lengths=(1,), ground=(2, 1, (0,))), (2, 1, (((0, 1),),)))


class Doubts(unittest.TestCase):
    def least_doubt(self, laying, book, told):
        """The least doubt, by a search through all tuples."""
        many = laying[0] ** laying[1]
        for (i, one), (j, two) in product(enumerate(book), repeat=2):
            heads = laying_heads(laying, one, two, told)
            for x, y in combinations(range(many), 2):
                if equal_batches(laying, heads, x, y):
                    return (i, j, x, y)
        return None

    def check(self, laying, book, told):
        wanted = self.least_doubt(laying, book, told)
        same(self, laying_doubt(laying, book, told), wanted)
        same(self, laying_safe(laying, book, told), wanted is None)
        return wanted

    def test_against_all_tuples(self):
        chance = random.Random(1)
        seen = {}
        for q, k in SIZES:
            for _ in range(100):
                shelves = chance.randint(1, 4)
                laying = some_laying(chance, q, k, shelves, 4)
                found = self.check(laying, some_fates(chance, shelves, 4), chance.choice(TOLD))
                seen[found is None] = seen.get(found is None, 0) + 1
                if found is not None:
                    for at, part in enumerate(found):
                        seen["ijxy"[at], part > 0] = True
        self.assertGreater(min(seen[True], seen[False]), 50)
        self.assertEqual(len(seen), 2 + 7)

    def test_the_least_one(self):
        laying = (2, 2, (((0, 1, 1, 0),), ((0, 1, 0, 1),)))
        lose = (((None, 0), FINE), (FINE, (None, 0)))
        for told in TOLD:
            self.assertEqual(self.check(laying, lose, told), (0, 0, 0, 2))
            self.assertEqual(self.check(laying, lose[::-1], told), (0, 0, 0, 3))
            self.assertEqual(self.check(laying, ((FINE, FINE),) + lose[1:], told), (1, 0, 0, 3) if not told else (1, 1, 0, 3))
        self.assertEqual(self.check((3, 1, (((0, 1, 1),),)), ((FINE,),), False), (0, 0, 1, 2))
        # 0 and 3 are equal, and so are 1 and 2, which are together less far behind.
        self.assertEqual(self.check((4, 1, (((0, 1, 1, 0),),)), ((FINE,),), False), (0, 0, 0, 3))

    def test_no_column_in_the_common_heads(self):
        for told in TOLD:
            for book in ((((None, 0),),), (((0, None),),), (((1, 1),),), (((64, 0),),), (((2, 0),),)):
                self.assertEqual(self.check((2, 1, (((0, 1), (1, 0)),)), book, told), (0, 0, 0, 1))
            self.assertEqual(self.check((3, 2, ((), ())), ((FINE, FINE),), told), (0, 0, 0, 1))

    def test_256_batches_and_8_shelves_of_8_columns(self):
        chance = random.Random(2)
        laying = (4, 4, tuple(tuple(tuple(chance.randrange(4) for _ in range(256)) for _ in range(8)) for _ in range(8)))
        book = tuple(tuple((n, (n * shelf) % 3) for shelf in range(8)) for n in range(7)) + (((0, 0),) * 8,) * 17
        for told in TOLD:
            same(self, laying_safe(laying, book[:4] + book[7:], told), True)
            found = laying_doubt(laying, book, told)
            same(self, laying_safe(laying, book, told), found is None)
            if found is not None:
                heads = laying_heads(laying, book[found[0]], book[found[1]], told)
                self.assertTrue(equal_batches(laying, heads, found[2], found[3]))
        same(self, laying_doubt((4, 4, ((column(4, 4),) * 8,) * 8), book, False), (0, 0, 0, 4))

    def test_layings_of_grounds_are_safe_just_when_their_batches_are(self):
        chance = random.Random(3)
        seen = set()
        for ground in ((2, 2, (0, 1, 2)), (3, 2, (0, 1, 3)), (2, 3, (2, 0)), (5, 1, (0, 1, 2, 3))):
            for _ in range(60):
                lengths = tuple(chance.randint(0, 4) for _ in ground[2])
                book, told = some_fates(chance, len(lengths), 3), chance.choice(TOLD)
                answer = self.check(laying_of(ground, lengths), book, told) is None
                same(self, answer, safe(ground, book, told, tuple((0,) * length for length in lengths), 0))
                seen.add(answer)
        self.assertEqual(seen, {True, False})

    def test_no_layout_is_safe_before(self):
        """[10.4]: if the weaving is not safe, no laying with as many columns is safe, whatever the prime."""
        chance = random.Random(4)
        seen = {}
        for q, k in SIZES:
            for _ in range(80):
                shelves = chance.randint(1, 3)
                laying = some_laying(chance, q, k, shelves, 5)
                weaving = tuple((0,) * len(columns) for columns in laying[2])
                book, told = some_fates(chance, shelves, 3), chance.choice(TOLD)
                before = safe((chance.choice((3, 65521)), k, (0, 1, 2)[:shelves]), book, told, weaving, 0)
                answer = laying_safe(laying, book, told)
                self.assertTrue(before or not answer)
                seen[before, answer] = True
        self.assertEqual(len(seen), 3)

    def test_errors_in_order(self):
        for call in (laying_safe, laying_doubt):
            for laying, what in ((None, -1), ((8, 1, ((),)), 0), ((2, 5, ((),)), 1), ((2, 1, ()), 2), ((2, 1, ((), 0)), (2, 1))):
                refuses(self, BadLaying, what, call, laying, None, None)
            for book, what in ((None, -1), ((), -1), (((FINE,),), 0), (((FINE, FINE), ((65, 0), FINE)), 1)):
                refuses(self, BadBook, what, call, SMALL, book, None)
            refuses(self, TooMany, 25, call, SMALL, ((FINE, FINE),) * 25, None)
            for told in (None, 0, 1, "True", (), (True,), 2):
                refuses(self, BadTold, told, call, SMALL, ((FINE, FINE),), told)

    def test_by_name(self):
        same(self, laying_safe(told=True, book=((FINE, FINE),), laying=SMALL), True)
        same(self, laying_doubt(told=True, book=((FINE, FINE),), laying=SMALL), None)


class Blind(unittest.TestCase):
    def least_blind(self, laying):
        """The least tuple, by a search through all tuples."""
        q, k, tables = laying
        for lengths in lengths_of(len(tables), k):
            if all(length <= len(columns) for length, columns in zip(lengths, tables)):
                for x, y in combinations(range(q ** k), 2):
                    if equal_batches(laying, lengths, x, y):
                        return (lengths, x, y)
        return None

    def check(self, laying):
        wanted = self.least_blind(laying)
        same(self, first_blind(laying), wanted)
        return wanted

    def test_against_all_tuples(self):
        chance = random.Random(5)
        seen = {}
        for q, k in SIZES:
            for _ in range(60):
                found = self.check(some_laying(chance, q, k, chance.randint(1, 4), 4))
                seen[found is None] = seen.get(found is None, 0) + 1
        self.assertGreater(min(seen.values()), 30)

    def test_fewer_columns_than_k(self):
        for laying in ((2, 2, ((), ())), (2, 2, (((0, 0, 0, 0),), ())), (3, 2, ((),))):
            same(self, self.check(laying), None)

    def test_the_least_one(self):
        one, two, three = (0, 0, 1, 1), (0, 1, 0, 1), (0, 1, 1, 0)
        same(self, self.check((2, 2, ((one, two), (three,)))), None)
        same(self, self.check((2, 2, ((one, one), (three,)))), ((2, 0), 0, 1))
        same(self, self.check((2, 2, ((one,), (two,), (one,)))), ((1, 0, 1), 0, 1))
        same(self, self.check((2, 2, ((one,), (two,), (two,)))), ((0, 1, 1), 0, 2))
        same(self, self.check((2, 2, ((three, two, one), (three, two)))), ((1, 1), 0, 3))

    def test_layings_of_grounds_are_blind_at_no_lengths(self):
        for ground in ((2, 2, (0, 1, 2)), (2, 4, (2, 0, 1)), (3, 2, (0, 1, 2, 3)), (3, 4, (3, 1)), (5, 2, (0, 1, 2, 3, 4, 5)),
                       (7, 2, (0, 1, 2, 3, 4, 5, 6, 7)), (5, 3, (5, 0, 1, 2)), (7, 1, (0, 7, 3))):
            for length in (1, ground[1], 8):
                same(self, first_blind(laying_of(ground, (length,) * len(ground[2]))), None)

    def test_more_than_q_and_1_shelves_are_always_blind(self):
        chance = random.Random(6)
        for q, k, shelves in ((2, 2, 4), (2, 3, 4), (3, 2, 5), (4, 2, 6), (5, 2, 7), (6, 2, 8), (2, 4, 5), (3, 3, 5)):
            for _ in range(15):
                laying = (q, k, tuple(tuple(tuple((x // q ** chance.randrange(k) + chance.choice((0, 0, x))) % q
                                                  for x in range(q ** k)) for _ in range(k - 1)) for _ in range(shelves)))
                lengths, x, y = first_blind(laying)
                self.assertEqual(sum(lengths), k)
                self.assertTrue(x < y and equal_batches(laying, lengths, x, y))
        # The rows of all p + 1 points and once more the first one of them.
        for p, k in ((2, 2), (3, 2), (2, 4), (5, 2)):
            laying = laying_of((p, k, tuple(range(p + 1))), (k,) * (p + 1))
            same(self, first_blind(laying), None)
            self.assertIsNotNone(first_blind((p, k, laying[2] + laying[2][:1])))

    def test_256_batches_and_8_shelves_of_8_columns(self):
        chance = random.Random(7)
        laying = (4, 4, tuple(tuple(tuple(chance.randrange(4) for _ in range(256)) for _ in range(8)) for _ in range(8)))
        lengths, x, y = first_blind(laying)
        same(self, (lengths, x < y), ((0, 0, 0, 0, 0, 0, 0, 4), True))
        self.assertTrue(equal_batches(laying, lengths, x, y))

    def test_by_name(self):
        same(self, first_blind(laying=SMALL), None)


class Example(unittest.TestCase):
    def test_of_the_interface(self):
        runs_as_shown(self, """
>>> from firstsafe.layings import first_blind, laying_doubt, laying_of, laying_safe
>>> laying_of((2, 2, (0, 1, 2)), (1, 1, 1))
(2, 2, (((0, 0, 1, 1),), ((0, 1, 1, 0),), ((0, 1, 0, 1),)))
>>> four = (2, 2, (((0, 0, 1, 1),), ((0, 1, 1, 0),), ((0, 1, 0, 1),), ((0, 0, 1, 1),)))
>>> first_blind(four)
((1, 0, 0, 1), 0, 1)
>>> lose_last = (((0, 0), (0, 0), (None, 0)),)
>>> laying_safe(laying_of((2, 2, (0, 1, 2)), (1, 1, 1)), lose_last, False)
True
>>> laying_doubt(laying_of((2, 2, (0, 1, 2)), (1, 0, 1)), lose_last, False)
(0, 0, 0, 1)
""")


if __name__ == "__main__":
    unittest.main()
