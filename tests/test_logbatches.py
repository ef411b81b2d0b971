"""What a batch of a volume is ([14], [14.1])."""

import random
import unittest

from firstsafe.logbatches import closing, cut, figures_in, is_closing, is_image, is_log
from tests.helper import NO_NUMBERS, STRANGE, same, spoiled

JUDGES = {0: is_image, 1: is_closing, 2: is_log}
TOP = 65520


def kinds_of(k, batch):
    """The kinds that the batch is of, by the judges."""
    return [kind for kind, judge in JUDGES.items() if judge(k, batch)]


class Kinds(unittest.TestCase):
    def test_how_many_figures_are_used(self):
        for k in (3, 4, 5, 12):
            for kind, judge in ((0, is_image), (2, is_log)):
                for used in range(-1, k + 2):
                    batch = (kind, used) + tuple(1 if place < used else 0 for place in range(k - 2))
                    same(self, judge(k, batch), 1 <= used <= k - 2)

    def test_figures_behind_those_that_are_used(self):
        for kind, judge in ((0, is_image), (2, is_log)):
            for used in (1, 2, 3):
                for place in range(3):
                    batch = (kind, used) + tuple(7 if at == place else 0 for at in range(3))
                    same(self, judge(5, batch), place < used)
            same(self, judge(5, (kind, 1, 0, 0, 0)), True)
            same(self, judge(5, (kind, 3, 0, 0, 0)), True)

    def test_each_batch_has_one_kind(self):
        for k in range(3, 13):
            zeros = (0,) * (k - 2)
            for batch, wanted in (((0, 1) + zeros, [0]), ((1, 1) + zeros, [1]), ((2, 1) + zeros, [2]), ((3, 1) + zeros, []),
                                  ((1, 0) + zeros, [1]), ((0, 0) + zeros, []), ((2, 0) + zeros, []), ((1, 40) + zeros, [1]),
                                  ((1, 41) + zeros, []), ((1, 1) + zeros[1:] + (1,), []), ((1, 1, 1) + zeros[1:], []),
                                  ((TOP, 1) + zeros, [])):
                same(self, kinds_of(k, batch), wanted)

    def test_many_0_40_and_41(self):
        for many, wanted in ((-1, False), (0, True), (1, True), (40, True), (41, False), (65520, False)):
            same(self, is_closing(3, (1, many, 0)), wanted)
            same(self, is_closing(12, (1, many) + (0,) * 10), wanted)

    def test_figures_of_65520_and_above(self):
        for figure, wanted in ((0, True), (41, True), (TOP, True), (TOP + 1, False), (65536, False), (10 ** 40, False), (-1, False)):
            same(self, is_image(3, (0, 1, figure)), wanted)
            same(self, is_log(4, (2, 2, figure, figure)), wanted)
            same(self, is_log(4, (2, 2, 0, figure)), wanted)

    def test_k_from_3_to_12(self):
        for k in range(-1, 20):
            for kind, judge in JUDGES.items():
                same(self, judge(k, (kind, 1) + (0,) * (k - 2)), 3 <= k <= 12)
        for k in NO_NUMBERS + (None, 10 ** 40, (41, 3, (0,))):
            for kind, judge in JUDGES.items():
                same(self, judge(k, (kind, 1, 0)), False)

    def test_as_many_numbers_as_k(self):
        for k in range(3, 13):
            for other in range(2, 14):
                for kind, judge in JUDGES.items():
                    same(self, judge(k, (kind, 1) + (0,) * (other - 2)), k == other)

    def test_strange_things_are_judged(self):
        for kind, judge in JUDGES.items():
            for thing in STRANGE + tuple(spoiled((kind, 1, 0))):
                same(self, judge(3, thing), False)
            same(self, judge(3, [kind, 1, 0]), False)
            same(self, judge(3, (kind, True, 0)), False)
            same(self, judge(3, (kind, 1, False)), False)
        same(self, is_image(3, (False, 1, 0)), False)
        same(self, is_closing(3, (True, 1, 0)), False)


class Cutting(unittest.TestCase):
    def test_no_figures(self):
        for k in range(3, 13):
            same(self, cut(k, 0, ()), ())
            same(self, cut(k, 2, ()), ())

    def test_just_full_and_one_figure_more(self):
        for k in range(3, 13):
            figures = tuple(range(7, 7 + 3 * (k - 2)))
            room = k - 2
            full = tuple((2, room) + figures[n * room:(n + 1) * room] for n in range(3))
            same(self, cut(k, 2, figures), full)
            same(self, cut(k, 2, figures + (40,)), full + ((2, 1, 40) + (0,) * (room - 1),))
            same(self, cut(k, 0, figures[:room]), ((0, room) + figures[:room],))
            same(self, cut(k, 0, (5,)), ((0, 1, 5) + (0,) * (room - 1),))
        same(self, cut(4, 0, (1, 2, 3)), ((0, 2, 1, 2), (0, 1, 3, 0)))
        same(self, cut(3, 2, (0, 0)), ((2, 1, 0), (2, 1, 0)))

    def test_what_is_cut_holds_the_figures(self):
        chance = random.Random(1)
        for _ in range(200):
            k, kind = chance.randint(3, 12), chance.choice((0, 2))
            figures = tuple(chance.choice((0, 1, TOP)) for _ in range(chance.randint(0, 45)))
            batches = cut(k, kind, figures)
            same(self, [kinds_of(k, batch) for batch in batches], [[kind]] * len(batches))
            same(self, [len(figures_in(batch)) for batch in batches[:-1]], [k - 2] * len(batches[:-1]))
            same(self, sum((figures_in(batch) for batch in batches), ()), figures)

    def test_figures_in(self):
        same(self, figures_in((0, 1, 5)), (5,))
        same(self, figures_in((2, 1, 0, 0, 0)), (0,))
        same(self, figures_in((2, 3, 4, 0, 0)), (4, 0, 0))
        same(self, figures_in((0, 10) + tuple(range(10))), tuple(range(10)))

    def test_closing(self):
        for k in range(3, 13):
            for many in (0, 1, 40):
                same(self, closing(k, many), (1, many) + (0,) * (k - 2))
                same(self, is_closing(k, closing(k, many)), True)
        same(self, closing(3, 0), (1, 0, 0))

    def test_by_name(self):
        same(self, cut(figures=(1,), kind=0, k=3), ((0, 1, 1),))
        same(self, closing(many=2, k=3), (1, 2, 0))
        same(self, figures_in(batch=(0, 1, 1)), (1,))
        same(self, (is_image(batch=(0, 1, 1), k=3), is_log(batch=(2, 1, 1), k=3), is_closing(batch=(1, 1, 0), k=3)),
             (True, True, True))


if __name__ == "__main__":
    unittest.main()
