"""Grounds, batches and lengths ([1.2], [1.3], [0.4])."""

import unittest

from firstsafe.errors import BadBatch, BadBatches, BadGround, BadLengths
from firstsafe.grounds import (is_batch, is_ground, made_batch, made_batches, made_ground, made_lengths, shelves)
from tests.helper import NO_NUMBERS, STRANGE, nested, refuses, runs_as_shown, same, spoiled

GROUND = (5, 3, (0, 1, 2, 5))
EIGHT = tuple(range(8))

GOOD = (
    GROUND,
    (2, 1, (0,)), (2, 1, (2,)), (2, 12, (0, 1, 2)), (2, 12, (2, 0, 1)),
    (65521, 12, (65521, 0, 65520, 1, 2, 3, 4, 5)), (65521, 1, (65521,)),
    (7, 1, EIGHT), (7, 12, EIGHT[::-1]), (3, 2, (3, 1)),
)

# Each with the index of its first bad part.
BAD = (
    ((5, 3, ()), 2), ((7, 3, EIGHT + (8,)), 2), ((11, 3, EIGHT + (8,)), 2), ((7, 3, EIGHT[:7] + (8,)), 2),
    ((5, 3, (6,)), 2), ((5, 3, (0, 1, 6)), 2), ((5, 3, (0, -1)), 2), ((2, 1, (3,)), 2), ((65521, 1, (65522,)), 2),
    ((5, 3, (1, 1)), 2), ((5, 3, (5, 0, 5)), 2), ((5, 3, (0, 2, 3, 2)), 2),
    ((5, 3, [0, 1]), 2), ((5, 3, 0), 2), ((5, 3, None), 2), ((5, 3, "0"), 2), ((5, 3, (0, True)), 2),
    ((5, 3, (False,)), 2), ((5, 3, ("0",)), 2), ((5, 3, ((0,),)), 2), ((5, 3, (0, nested(15))), 2),
    ((5, 3, ([0], [1])), 2), ((5, 3, (None,)), 2),
    ((5, 0, (0,)), 1), ((5, 13, (0,)), 1), ((5, -1, (0,)), 1), ((5, True, (0,)), 1), ((5, None, (0,)), 1),
    ((5, "3", (0,)), 1), ((5, (3,), (0,)), 1), ((5, 10 ** 40, (0,)), 1), ((5, 0, ()), 1), ((5, 13, (9, 9)), 1),
    ((4, 3, (0,)), 0), ((1, 3, (0,)), 0), ((0, 3, (0,)), 0), ((-5, 3, (0,)), 0), ((65537, 3, (0,)), 0),
    ((65519 * 65521, 3, (0,)), 0), ((63001, 3, (0,)), 0), ((True, 3, (0,)), 0), (("5", 3, (0,)), 0),
    (((5,), 3, (0,)), 0), ((None, 3, (0,)), 0), ((10 ** 60, 3, (0,)), 0), ((4, 0, ()), 0), ((9, 13, None), 0),
    ((None, None, None), 0), (("a", "b", "c"), 0), ((0, 0, 0), 0),
    ((), -1), ((5,), -1), ((5, 3), -1), ((5, 3, (0,), 0), -1), ([5, 3, (0,)], -1), (None, -1), (True, -1), (5, -1),
    ("abc", -1), ("", -1), ({}, -1), (((5, 3, (0,)),), -1),
)


class Grounds(unittest.TestCase):
    def test_grounds_are_returned(self):
        for ground in GOOD:
            same(self, made_ground(ground), ground)
            same(self, is_ground(ground), True)
            same(self, shelves(ground), len(ground[2]))

    def test_other_things_are_refused_at_their_first_bad_part(self):
        for thing, what in BAD:
            refuses(self, BadGround, what, made_ground, thing)
            refuses(self, BadGround, what, shelves, thing)
            same(self, is_ground(thing), False)

    def test_strange_things_are_judged(self):
        for thing in STRANGE + tuple(spoiled(GROUND)) + tuple(spoiled((2, 1, (1, 0)))):
            same(self, is_ground(thing), False)

    def test_all_numbers_of_shelves(self):
        for many in range(12):
            ground = (13, 2, tuple(range(13, 13 - many, -1)))
            same(self, is_ground(ground), 1 <= many <= 8)
            if 1 <= many <= 8:
                same(self, shelves(ground), many)
            else:
                refuses(self, BadGround, 2, shelves, ground)

    def test_all_numbers_of_a_batch(self):
        for k in range(-2, 16):
            same(self, is_ground((5, k, (0,))), 1 <= k <= 12)

    def test_the_far_point_and_the_number_behind_it(self):
        for p in (2, 3, 5, 65521):
            same(self, is_ground((p, 1, (0, p))), True)
            same(self, is_ground((p, 1, (0, p + 1))), False)
            same(self, is_ground((p, 1, (p, p))), False)

    def test_by_name(self):
        same(self, made_ground(thing=GROUND), GROUND)
        same(self, is_ground(thing=GROUND), True)
        same(self, shelves(ground=GROUND), 4)


class Batches(unittest.TestCase):
    def test_batches_are_returned(self):
        for ground, batch in ((GROUND, (1, 2, 3)), (GROUND, (0, 0, 0)), (GROUND, (4, 4, 4)), ((2, 1, (2,)), (1,)),
                              ((65521, 12, (0,)), (65520,) * 12)):
            same(self, made_batch(ground, batch), batch)
            same(self, is_batch(ground, batch), True)

    def test_others_are_refused_at_their_first_bad_number(self):
        for thing, what in (((1, 2), -1), ((1, 2, 3, 4), -1), ((), -1), ([1, 2, 3], -1), (None, -1), (3, -1),
                            ("123", -1), ((5, 2, 3), 0), ((1, 2, 5), 2), ((1, -1, 7), 1), ((1, True, 3), 1),
                            ((False, 0, 0), 0), ((0, 0, "0"), 2), ((0, (0,), None), 1), ((0, 0, 10 ** 40), 2),
                            ((0, [0], 0), 1), ((None,) * 3, 0), ((9, 9), -1), ((0, nested(19), 0), 1)):
            refuses(self, BadBatch, what, made_batch, GROUND, thing)
            same(self, is_batch(GROUND, thing), False)

    def test_strange_things_are_judged(self):
        for thing in STRANGE + tuple(spoiled((1, 2, 3))):
            same(self, is_batch(GROUND, thing), False)

    def test_the_ground_comes_first(self):
        for ground, what in BAD:
            refuses(self, BadGround, what, made_batch, ground, None)
            same(self, is_batch(ground, (1, 2, 3)), False)
            same(self, is_batch(ground, None), False)
        for ground in STRANGE + tuple(spoiled(GROUND)):
            same(self, is_batch(ground, (1, 2, 3)), False)

    def test_by_name(self):
        same(self, made_batch(thing=(1, 2, 3), ground=GROUND), (1, 2, 3))
        same(self, is_batch(thing=(1, 2, 3), ground=GROUND), True)


class TuplesOfBatches(unittest.TestCase):
    def test_up_to_64_batches(self):
        for many in (0, 1, 2, 63, 64):
            batches = tuple((i % 5, i % 3, i % 2) for i in range(many))
            same(self, made_batches(GROUND, batches), batches)
        for many in (65, 66, 200):
            refuses(self, BadBatches, -1, made_batches, GROUND, ((0, 0, 0),) * many)
            refuses(self, BadBatches, -1, made_batches, GROUND, (None,) * many)

    def test_others_are_refused_at_their_first_bad_batch(self):
        good = (1, 2, 3)
        for thing, what in ((None, -1), ([], -1), ([good], -1), ("", -1), (0, -1), (True, -1), (good, 0),
                            ((good, [1, 2, 3]), 1), ((good, good, (1, 2)), 2), ((good, (1, 2, 5), None), 1),
                            (((1, True, 3), good), 0), ((good,) * 63 + ((0, 0, -1),), 63), ((good, ()), 1),
                            ((good, good + good), 1), ((good, nested(19)), 1), (("abc",), 0), ((None,), 0)):
            refuses(self, BadBatches, what, made_batches, GROUND, thing)

    def test_the_ground_comes_first(self):
        for ground, what in BAD:
            refuses(self, BadGround, what, made_batches, ground, None)

    def test_by_name(self):
        same(self, made_batches(thing=(), ground=GROUND), ())


class Lengths(unittest.TestCase):
    def test_one_for_each_shelf(self):
        for lengths in ((0, 0, 0, 0), (1, 2, 3, 4), (1024, 1024, 1024, 1024), (1023, 0, 1024, 1)):
            same(self, made_lengths(GROUND, lengths), lengths)
        same(self, made_lengths((7, 1, EIGHT), EIGHT), EIGHT)
        same(self, made_lengths((2, 12, (2,)), (1024,)), (1024,))

    def test_others_are_refused_at_their_first_bad_number(self):
        for thing, what in ((None, -1), ([0, 0, 0, 0], -1), ((0, 0, 0), -1), ((0,) * 5, -1), ((), -1), (0, -1),
                            ("0000", -1), ((1025, 0, 0, 0), 0), ((0, 1024, 1025, -1), 2), ((0, -1, 0, 0), 1),
                            ((0, 0, 0, True), 3), ((0, False, 0, 0), 1), ((0, 0, None, 0), 2), (("0", 0, 0, 0), 0),
                            ((0, (0,), 0, 0), 1), ((0, 0, 0, 10 ** 40), 3), ((0, 0, 0, nested(19)), 3),
                            ((9999, 9999), -1)):
            refuses(self, BadLengths, what, made_lengths, GROUND, thing)

    def test_no_number_is_taken_for_one(self):
        for at in range(4):
            for wrong in NO_NUMBERS:
                refuses(self, BadLengths, at, made_lengths, GROUND, (0,) * at + (wrong,) + (0,) * (3 - at))

    def test_the_ground_comes_first(self):
        for ground, what in BAD:
            refuses(self, BadGround, what, made_lengths, ground, None)

    def test_by_name(self):
        same(self, made_lengths(thing=(1, 2, 3, 4), ground=GROUND), (1, 2, 3, 4))


class Example(unittest.TestCase):
    def test_of_the_interface(self):
        runs_as_shown(self, """
>>> from firstsafe.grounds import made_ground
>>> made_ground((5, 3, (0, 1, 2, 5)))
(5, 3, (0, 1, 2, 5))
""")
        refuses(self, BadGround, 2, made_ground, (5, 3, (0, 1, 6)))


if __name__ == "__main__":
    unittest.main()
