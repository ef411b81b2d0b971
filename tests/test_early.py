"""What is known early ([9], [0.3](a))."""

import random
import unittest

from firstsafe.early import early, ways_left
from firstsafe.errors import BadGround, BadLengths
from firstsafe.forms import product
from firstsafe.rows import row
from tests.helper import batches_of, lengths_of, refuses, runs_as_shown, same

TINY = ((2, 1, (0, 1, 2)), (2, 4, (0, 1, 2)), (2, 7, (2, 1)), (3, 3, (3, 0, 2, 1)), (3, 4, (1, 3)), (3, 5, (0,)),
        (5, 3, (0, 5)), (5, 2, (1, 2, 3)), (7, 2, (7, 6, 5)))


def classes(ground, lengths):
    """The batches, put together by their first cells of these lengths."""
    found = {}
    for batch in batches_of(ground[0], ground[1]):
        cells = tuple(row(ground, batch, shelf, length) for shelf, length in enumerate(lengths))
        found.setdefault(cells, []).append(batch)
    return list(found.values())


class Early(unittest.TestCase):
    def test_against_all_batches(self):
        seen = {}
        for ground in TINY:
            p, k, points = ground
            for total in range(k + 3):
                for lengths in lengths_of(len(points), total):
                    groups = classes(ground, lengths)
                    left = max(0, k - total)
                    self.assertEqual({len(group) for group in groups}, {p ** left})
                    same(self, ways_left(ground, lengths), left)
                    known = tuple(j for j in range(k) if all(len({x[j] for x in group}) == 1 for group in groups))
                    same(self, early(ground, lengths), known)
                    for j in range(k):
                        if j not in known:
                            for group in groups:
                                numbers = [batch[j] for batch in group]
                                self.assertEqual({numbers.count(a) for a in range(p)}, {len(group) // p})
                    word = "all" if len(known) == k else "some" if known else "none"
                    seen[total < k, word] = True
        self.assertEqual(sorted(seen), [(False, "all"), (True, "none"), (True, "some")])

    def test_sums_of_0_below_k_k_and_more(self):
        ground = (5, 3, (0, 5, 1))
        for lengths, left, known in (((0, 0, 0), 3, ()), ((1, 0, 0), 2, (0,)), ((0, 1, 0), 2, (2,)), ((0, 0, 1), 2, ()),
                                     ((1, 1, 0), 1, (0, 2)), ((2, 0, 0), 1, (0, 1)), ((3, 0, 0), 0, (0, 1, 2)),
                                     ((1, 1, 1), 0, (0, 1, 2)), ((1024, 1024, 1024), 0, (0, 1, 2)),
                                     ((99, 0, 0), 0, (0, 1, 2)), ((0, 4, 0), 0, (0, 1, 2))):
            same(self, ways_left(ground, lengths), left)
            same(self, early(ground, lengths), known)

    def test_large_grounds(self):
        chance = random.Random(1)
        for ground in ((65521, 12, (65521, 0, 65520, 1, 2, 3, 4, 5)), (2, 12, (0, 1, 2)), (3, 12, (1, 2))):
            p, k, points = ground
            for _ in range(60):
                lengths = tuple(chance.choice((0, 0, 1, 2, 3)) for _ in points)
                m = sum(lengths)
                if m < k:
                    numbers = dict(enumerate(product(ground, lengths)))
                    wanted = tuple(j for j in range(k)
                                   if not any(numbers.get(t, 0) for t in range(j - (k - m) + 1, j + 1)))
                else:
                    wanted = tuple(range(k))
                same(self, early(ground, lengths), wanted)
                same(self, ways_left(ground, lengths), max(0, k - m))

    def test_errors_in_order(self):
        for call in (early, ways_left):
            for ground, what in ((None, -1), ((4, 1, (0,)), 0), ((5, 0, (0,)), 1), ((5, 1, (0, 0)), 2)):
                refuses(self, BadGround, what, call, ground, None)
            for lengths, what in ((None, -1), ((1,), -1), ((1, 1025), 1), ((True, 0), 0), ([0, 0], -1), ((0, -1), 1)):
                refuses(self, BadLengths, what, call, (5, 2, (0, 5)), lengths)

    def test_by_name(self):
        same(self, ways_left(lengths=(1,), ground=(5, 3, (0,))), 2)
        same(self, early(lengths=(1,), ground=(5, 3, (0,))), (0,))


class Example(unittest.TestCase):
    def test_of_the_interface(self):
        runs_as_shown(self, """
>>> from firstsafe.early import early, ways_left
>>> (ways_left((3, 5, (0, 1)), (0, 3)), early((3, 5, (0, 1)), (0, 3)))
(2, (2,))
>>> early((5, 3, (0, 5)), (1, 1))
(0, 2)
""")


if __name__ == "__main__":
    unittest.main()
