"""Equations and flats ([7])."""

import random
import unittest
from itertools import product

from firstsafe.errors import BadEquations, BadGround
from firstsafe.flats import flat
from firstsafe.matrices import kernel_of, reduced
from tests.helper import NO_TUPLES, STRANGE, batches_of, nested, refuses, runs_as_shown, same, spoiled

GROUNDS = ((2, 1, (0,)), (2, 3, (0, 1)), (2, 4, (2,)), (3, 2, (0, 1, 2, 3)), (3, 3, (1,)), (5, 2, (0,)), (7, 1, (7,)))


def keeping(ground, equations):
    """All batches that keep all equations."""
    p, k, _ = ground
    return [batch for batch in batches_of(p, k)
            if all(sum(a * x for a, x in zip(weights, batch)) % p == right for weights, right in equations)]


def members(ground, found):
    """All batches of the flat."""
    p, k, _ = ground
    point, ways = found
    return sorted(tuple((point[t] + sum(a * way[t] for a, way in zip(factors, ways))) % p for t in range(k))
                  for factors in product(range(p), repeat=len(ways)))


class Flats(unittest.TestCase):
    def check(self, ground, equations):
        p, k, _ = ground
        found, wanted = flat(ground, equations), keeping(ground, equations)
        if not wanted:
            same(self, found, None)
            return
        self.assertEqual(members(ground, found), wanted)
        weights = tuple(line for line, _ in equations)
        same(self, found[1], kernel_of(weights, k, p))
        heads = {line.index(1) for line in reduced(weights, k, p)}
        self.assertTrue(all(found[0][t] == 0 for t in range(k) if t not in heads))
        same(self, found, (tuple(found[0]), found[1]))

    def test_by_chance(self):
        chance = random.Random(1)
        seen = set()
        for ground in GROUNDS:
            p, k, _ = ground
            for _ in range(120):
                right = tuple(chance.randrange(p) for _ in range(k))
                equations = []
                for _ in range(chance.randint(0, k + 2)):
                    weights = tuple(chance.choice((0, chance.randrange(p))) for _ in range(k))
                    total = sum(a * x for a, x in zip(weights, right)) % p
                    equations.append((weights, chance.choice((total, total, total, chance.randrange(p)))))
                self.check(ground, tuple(equations))
                seen.add(len(keeping(ground, equations)))
        self.assertTrue({0, 1, 2, 4, 8, 16, 3, 9, 27, 25} <= seen)

    def test_no_equations(self):
        same(self, flat((5, 2, (0,)), ()), ((0, 0), ((1, 0), (0, 1))))
        same(self, flat((65521, 12, (0, 65521)), ()),
             ((0,) * 12, tuple(tuple(int(t == place) for t in range(12)) for place in range(12))))

    def test_equations_that_clash(self):
        same(self, flat((5, 2, (0,)), (((1, 2), 3), ((1, 2), 4))), None)
        same(self, flat((5, 2, (0,)), (((1, 0), 3), ((0, 1), 1), ((1, 1), 0))), None)
        same(self, flat((5, 2, (0,)), (((1, 0), 3), ((0, 1), 1), ((1, 1), 4))), ((3, 1), ()))

    def test_weights_that_are_all_0(self):
        for p in (2, 5, 65521):
            ground = (p, 2, (0,))
            same(self, flat(ground, (((0, 0), 0),)), ((0, 0), ((1, 0), (0, 1))))
            for right in {1, p - 1}:
                same(self, flat(ground, (((0, 0), right),)), None)
                same(self, flat(ground, (((1, 0), 1), ((0, 0), right), ((0, 1), 0))), None)

    def test_dependent_equations(self):
        same(self, flat((5, 2, (0, 1)), (((1, 2), 3), ((2, 4), 1), ((0, 0), 0), ((3, 1), 4))), ((3, 0), ((3, 1),)))
        same(self, flat((5, 3, (0,)), (((0, 1, 2), 3), ((0, 2, 4), 1))), ((0, 3, 0), ((1, 0, 0), (0, 3, 1))))
        same(self, flat((2, 3, (0,)), (((1, 1, 0), 1), ((0, 1, 1), 1), ((1, 0, 1), 0))), ((0, 1, 0), ((1, 1, 1),)))

    def test_large_primes(self):
        chance = random.Random(2)
        for p in (65521, 65519, 251):
            for k in (1, 5, 12):
                batch = tuple(chance.randrange(p) for _ in range(k))
                equations = []
                for _ in range(k + 3):
                    weights = tuple(chance.randrange(p) for _ in range(k))
                    equations.append((weights, sum(a * x for a, x in zip(weights, batch)) % p))
                same(self, flat((p, k, (0,)), tuple(equations)), (batch, ()))
                for at in range(k + 3):
                    weights, right = equations[at]
                    bent = equations[:at] + [(weights, (right + 1) % p)] + equations[at + 1:]
                    same(self, flat((p, k, (0,)), tuple(bent)), None)
                point, ways = flat((p, k, (0,)), tuple(equations[:k - 1]))
                self.assertEqual((len(ways), point[-1]), (1, 0))
                for line, right in equations[:k - 1]:
                    self.assertEqual(sum(a * x for a, x in zip(line, point)) % p, right)
                    self.assertEqual(sum(a * x for a, x in zip(line, ways[0])) % p, 0)

    def test_many_equations(self):
        same(self, flat((5, 2, (0,)), (((1, 2), 3),) * 3000), ((3, 0), ((3, 1),)))


class Errors(unittest.TestCase):
    GROUND = (5, 2, (0, 1))

    def test_the_ground_comes_first(self):
        for wrong, what in ((None, -1), ((4, 1, (0,)), 0), ((5, 0, (0,)), 1), ((5, 1, (0, 0)), 2)):
            refuses(self, BadGround, what, flat, wrong, None)

    def test_others_are_refused_at_their_first_bad_one(self):
        for wrong in NO_TUPLES + ([((1, 2), 3)],):
            refuses(self, BadEquations, -1, flat, self.GROUND, wrong)
        for wrong in (None, 0, (), ((1, 2),), ((1, 2), 3, 4), [(1, 2), 3], ((1,), 3), ((1, 2, 3), 4), ([1, 2], 3),
                      ((1, 5), 3), ((1, -1), 3), ((1, 2), 5), ((1, 2), -1), ((True, 2), 3), ((1, 2), False), ((1, 2), None),
                      ((1, 2), (3,)), (3, (1, 2)), "ab", nested(20), ((1, 2), 10 ** 40)):
            refuses(self, BadEquations, 0, flat, self.GROUND, (wrong, None))
            refuses(self, BadEquations, 2, flat, self.GROUND, (((1, 2), 3), ((1, 2), 0), wrong, ((1, 2), 3)))

    def test_strange_things_are_refused(self):
        for thing in STRANGE + tuple(spoiled((((1, 2), 3), ((0, 0), 1)))):
            if thing != ():
                with self.assertRaises(BadEquations):
                    flat(self.GROUND, thing)

    def test_by_name(self):
        same(self, flat(equations=(((1, 2), 3),), ground=self.GROUND), ((3, 0), ((3, 1),)))


class Example(unittest.TestCase):
    def test_of_the_interface(self):
        runs_as_shown(self, """
>>> from firstsafe.flats import flat
>>> flat((5, 2, (0, 1)), (((1, 2), 3),))
((3, 0), ((3, 1),))
>>> flat((5, 2, (0, 1)), (((1, 2), 3), ((2, 4), 0))) is None
True
""")


if __name__ == "__main__":
    unittest.main()
