"""The reader at the far end ([11])."""

import random
import unittest

from firstsafe.bookwords import read_book
from firstsafe.errors import BadBook, BadGround, BadNumber, BadShelf, Full, TooMany
from firstsafe.far import Far
from firstsafe.readers import read
from firstsafe.rows import row
from tests.helper import FINE, NO_NUMBERS, refuses, runs_as_shown, same, some_book

TWO = (5, 2, (0, 5))
NOTHING = ((FINE, FINE),)


def as_reading(heard):
    """All cells as cells of batch 0."""
    return tuple(tuple((0, number) for number in numbers) for numbers in heard)


class Hearing(unittest.TestCase):
    def test_begins_with_nothing_heard(self):
        same(self, Far(TWO, NOTHING).heard(), ((), ()))
        same(self, Far((5, 1, (0, 1, 2)), ((FINE,) * 3,)).heard(), ((), (), ()))

    def test_each_answer_is_that_of_read(self):
        chance = random.Random(1)
        seen = {}
        for _ in range(120):
            many = chance.randint(1, 4)
            ground = (5, chance.randint(1, 3), (0, 5, 2, 1)[:many])
            book = some_book(chance, many, 4)
            far, heard = Far(ground, book), [[] for _ in range(many)]
            batch = tuple(chance.randrange(5) for _ in range(ground[1]))
            for _ in range(20):
                shelf = chance.randrange(many)
                number = row(ground, batch, shelf, 64)[len(heard[shelf])]
                if chance.random() < 0.1:
                    number = chance.randrange(5)
                heard[shelf].append(number)
                answer = far.hear(shelf, number)
                same(self, answer, read(ground, book, None, as_reading(heard), 0))
                same(self, far.heard(), tuple(map(tuple, heard)))
                seen[answer[0]] = seen.get(answer[0], 0) + 1
        self.assertEqual(sorted(seen), ["none", "open", "told"])
        self.assertGreater(min(seen.values()), 50)

    def test_a_line_that_lies_is_found_out(self):
        """With two liars at the most among six lines, the cells of the other four are enough."""
        ground, batch = (7, 2, (0, 1, 2, 3, 4, 7)), (3, 6)
        far = Far(ground, read_book(tuple("abcdef"), "turn any 2"))
        numbers = [row(ground, batch, shelf, 1)[0] for shelf in range(6)]
        numbers[1] = (numbers[1] + 1) % 7
        numbers[4] = (numbers[4] + 3) % 7
        answers = [far.hear(shelf, number) for shelf, number in enumerate(numbers)]
        self.assertEqual([answer[0] for answer in answers[:4]], ["open"] * 4)
        same(self, answers[5], ("told", batch))

    def test_an_answer_may_become_none(self):
        far = Far((5, 1, (0, 1)), NOTHING)
        same(self, [far.hear(0, 3), far.hear(1, 3), far.hear(1, 0), far.hear(0, 1)],
             [("told", (3,)), ("told", (3,)), ("told", (3,)), ("none",)])
        same(self, far.hear(1, 0), ("none",))

    def test_the_64th_and_the_65th_cell_of_a_line(self):
        far = Far(TWO, NOTHING)
        answers = [far.hear(1, number) for number in (2, 1) + (0,) * 62]
        same(self, answers[1:], [("told", (1, 2))] * 63)
        before = far.heard()
        same(self, before, ((), (2, 1) + (0,) * 62))
        for number in range(5):
            refuses(self, Full, 1, far.hear, 1, number)
        same(self, far.heard(), before)
        same(self, far.hear(0, 1), ("told", (1, 2)))

    def test_all_lines_full(self):
        ground = (65521, 12, (65521, 0, 65520, 1, 2, 3, 4, 5))
        batch = tuple(range(1, 13))
        far = Far(ground, (((0, 3),) * 8,))
        rows = [row(ground, batch, shelf, 64) for shelf in range(8)]
        answers = [far.hear(shelf, rows[shelf][j]) for j in range(64) for shelf in range(8)]
        self.assertEqual([answer[0] for answer in answers[:35]], ["open"] * 35)
        same(self, answers[35:], [("told", batch)] * (512 - 35))
        for shelf in range(8):
            refuses(self, Full, shelf, far.hear, shelf, 0)

    def test_two_readers_are_apart(self):
        one, two = Far(TWO, NOTHING), Far(TWO, NOTHING)
        one.hear(0, 1)
        same(self, (one.heard(), two.heard()), (((1,), ()), ((), ())))


class Errors(unittest.TestCase):
    def test_of_the_class(self):
        for wrong, what in ((None, -1), ((4, 1, (0,)), 0), ((5, 0, (0,)), 1), ((5, 1, (0, 0)), 2)):
            refuses(self, BadGround, what, Far, wrong, None)
        for wrong, what in ((None, -1), ((), -1), (((FINE,),), 0), ((NOTHING[0], ((65, 0), FINE)), 1)):
            refuses(self, BadBook, what, Far, TWO, wrong)
        refuses(self, TooMany, 25, Far, TWO, NOTHING * 25)

    def test_in_order_and_nothing_is_changed(self):
        far = Far(TWO, NOTHING)
        for _ in range(64):
            far.hear(0, 0)
        before = far.heard()
        for shelf in NO_NUMBERS + (None, 2, -1, 10 ** 40):
            refuses(self, BadShelf, shelf, far.hear, shelf, 5)
            refuses(self, BadShelf, shelf, far.hear, shelf, 0)
        for number in NO_NUMBERS + (None, 5, -1, 10 ** 40):
            refuses(self, BadNumber, number, far.hear, 0, number)
            refuses(self, BadNumber, number, far.hear, 1, number)
        refuses(self, Full, 0, far.hear, 0, 4)
        same(self, far.heard(), before)
        same(self, far.hear(1, 0), ("told", (0, 0)))

    def test_by_name(self):
        far = Far(book=NOTHING, ground=TWO)
        same(self, far.hear(number=1, shelf=0)[:2], ("open", (1, None)))


class Example(unittest.TestCase):
    def test_of_the_interface(self):
        runs_as_shown(self, """
>>> from firstsafe.far import Far
>>> far = Far((3, 2, (0, 1)), (((0, 0), (0, 0)),))
>>> far.hear(0, 2)[:2]
('open', (2, None))
>>> far.hear(1, 0)
('told', (2, 1))
>>> far.heard()
((2,), (0,))
""")


if __name__ == "__main__":
    unittest.main()
