"""Printing books as texts ([5.4])."""

import random
import unittest

from firstsafe.bookprint import print_book
from firstsafe.bookwords import read_book
from firstsafe.errors import BadBook, BadNames, TooMany
from tests.helper import refuses, same

AB = ("a", "b")
FINE = (0, 0)


class Printing(unittest.TestCase):
    def test_each_kind_of_fate(self):
        for fate, wanted in ((FINE, "nothing"), ((1, 0), "cut 1 x"), ((64, 0), "cut 64 x"), ((None, 0), "lose x"),
                             ((0, 1), "tear 1 x"), ((0, 64), "tear 64 x"), ((0, None), "turn x"),
                             ((3, 5), "cut 3 x and tear 5 x"), ((None, None), "lose x and turn x"),
                             ((None, 2), "lose x and tear 2 x"), ((2, None), "cut 2 x and turn x")):
            same(self, print_book(("x",), ((fate,),)), wanted)

    def test_shelves_in_order(self):
        same(self, print_book(("b", "a", "long1name234"), (((0, 1), FINE, (None, 0)), (FINE, (10, 0), FINE))),
             "tear 1 b and lose long1name234; cut 10 a")
        same(self, print_book(AB, ((FINE, FINE), ((1, 1), (1, 1)))),
             "nothing; cut 1 a and tear 1 a and cut 1 b and tear 1 b")

    def test_equal_rows_are_printed_again(self):
        same(self, print_book(AB, ((FINE, FINE), (FINE, FINE))), "nothing; nothing")

    def test_reading_gives_the_book_with_equal_rows_once(self):
        chance = random.Random(1)
        for many in range(1, 9):
            names = ("a", "zz9", "abcdefghijkl", "n", "lose1", "o", "ands", "b0")[:many]
            for _ in range(60):
                book = tuple(tuple((chance.choice((0, 0, 1, 10, 64, None)), chance.choice((0, 0, 2, 34, None)))
                                   for _ in range(many)) for _ in range(chance.randint(1, 24)))
                same(self, read_book(names, print_book(names, book)), tuple(dict.fromkeys(book)))

    def test_the_longest_text_can_be_read(self):
        names = tuple(letter * 12 for letter in "abcdefgh")
        book = tuple(((64, n + 10),) + ((64, 64),) * 7 for n in range(24))
        same(self, read_book(names, print_book(names, book)), book)

    def test_errors_in_order(self):
        refuses(self, BadNames, -1, print_book, (), None)
        refuses(self, BadNames, -1, print_book, ["a"], ((FINE,),))
        refuses(self, BadNames, 1, print_book, ("a", "of"), None)
        refuses(self, BadNames, 1, print_book, ("a", "a"), ((FINE,),))
        refuses(self, BadBook, -1, print_book, AB, None)
        refuses(self, BadBook, -1, print_book, AB, ())
        refuses(self, TooMany, 25, print_book, AB, ((FINE, FINE),) * 25)
        refuses(self, BadBook, 1, print_book, AB, ((FINE, FINE), (FINE,)))
        refuses(self, BadBook, 0, print_book, AB, ((FINE, (0, 65)),))

    def test_by_name(self):
        same(self, print_book(book=((FINE,),), names=("a",)), "nothing")


if __name__ == "__main__":
    unittest.main()
