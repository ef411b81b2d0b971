"""Charters ([13.3])."""

import random
import unittest

from firstsafe.bookwords import read_book
from firstsafe.charters import is_charter, made_charter, made_charters
from firstsafe.errors import BadBook, BadCharter, BadCharters, BadGround, Hopeless, TooMany
from firstsafe.safety import bearable
from tests.helper import FINE, NO_NUMBERS, NO_TUPLES, STRANGE, nested, refuses, same, some_book, spoiled

TWO = (41, 3, (0, 41))
LOSE = (((None, 0), FINE),)
CHARTER = (TWO, LOSE)
HOPELESS = (((None, 0), FINE), (FINE, (0, None)))


class Charters(unittest.TestCase):
    def test_charters_are_returned(self):
        for charter in (CHARTER, ((41, 3, (0,)), ((FINE,),)), ((65521, 12, (65521, 0)), ((FINE, (0, 64)),) * 24),
                        ((43, 4, tuple(range(8))), (((64, 64),) * 8,)), (TWO, ((FINE, (64, None)), (FINE, (None, 1))))):
            same(self, made_charter(charter), charter)
            same(self, is_charter(charter), True)

    def test_p_37_and_41_and_k_2_and_3(self):
        for p, k, what in ((37, 3, 1), (37, 2, 1), (2, 1, 1), (41, 2, 2), (41, 1, 2), (65521, 2, 2), (41, 3, None),
                           (43, 3, None), (41, 12, None)):
            charter = ((p, k, (0, 1)), LOSE)
            if what is None:
                same(self, made_charter(charter), charter)
            else:
                refuses(self, BadCharter, what, made_charter, charter)
            same(self, is_charter(charter), what is None)

    def test_books_with_which_no_batch_becomes_safe(self):
        for book in (HOPELESS, (((None, 0), (None, 0)),), (((0, None), (None, 0)),), HOPELESS[::-1],
                     ((FINE, (0, None)), ((0, None), FINE)), (((None, None), (0, None)), (FINE, FINE))):
            refuses(self, Hopeless, 0, made_charter, (TWO, book))
            same(self, is_charter((TWO, book)), False)
        # Two fates without bounds may meet at one shelf as long as there is another one.
        same(self, is_charter((TWO, (((None, 0), FINE), ((0, None), FINE)))), True)

    def test_books_that_are_bearable_only_if_the_reader_is_told_the_weaving(self):
        """[13.3] asks with told False; told True, the lesser one of two u counts."""
        same(self, (bearable(TWO, HOPELESS, False), bearable(TWO, HOPELESS, True)), (False, True))
        refuses(self, Hopeless, 0, made_charter, (TWO, HOPELESS))
        same(self, is_charter((TWO, (((None, 0), FINE), (FINE, (None, 0))))), True)

    def test_errors_in_order(self):
        for thing in NO_TUPLES + ((), (TWO,), (TWO, LOSE, LOSE), [TWO, LOSE], nested(20)):
            refuses(self, BadCharter, 0, made_charter, thing)
        for ground, what in ((None, -1), ((37, 2), -1), ((36, 2, (0,)), 0), ((37, 0, (0,)), 1), ((37, 2, (0, 38)), 2)):
            refuses(self, BadGround, what, made_charter, (ground, None))
        small = (37, 2, (0, 1))
        for book, what in ((None, -1), ((), -1), ([], -1), ((HOPELESS[0], (FINE,)), 1), ((((65, 0), FINE),), 0)):
            refuses(self, BadBook, what, made_charter, (small, book))
        refuses(self, TooMany, 25, made_charter, (small, HOPELESS * 12 + LOSE))
        refuses(self, BadCharter, 1, made_charter, (small, HOPELESS))
        refuses(self, BadCharter, 2, made_charter, ((41, 2, (0, 1)), HOPELESS))
        refuses(self, Hopeless, 0, made_charter, ((41, 3, (0, 1)), HOPELESS))

    def test_strange_things_are_judged(self):
        for thing in STRANGE + tuple(spoiled(CHARTER, more=())):
            # None may stand in a fate.
            same(self, is_charter(thing), False)

    def test_the_judge_says_what_made_charter_does(self):
        chance = random.Random(1)
        said = {True: 0, False: 0}
        for _ in range(300):
            many = chance.randint(1, 4)
            ground = (chance.choice((37, 41, 43, 65521)), chance.choice((2, 3, 12)), tuple(range(many)))
            charter = (ground, some_book(chance, chance.choice((many, many, many, 2)), 3))
            answer = is_charter(charter)
            said[answer] += 1
            if answer:
                same(self, made_charter(charter), charter)
            else:
                with self.assertRaises((BadCharter, BadBook, Hopeless)):
                    made_charter(charter)
        self.assertGreater(min(said.values()), 20)

    def test_of_a_text(self):
        book = read_book(("a", "b", "c"), "lose any 1; tear 3 any 2")
        same(self, is_charter(((41, 3, (0, 1, 2)), book)), True)


class ByVolumes(unittest.TestCase):
    OTHER = ((65521, 12, (1,)), ((FINE,),))

    def test_charters_are_returned(self):
        for thing in ((), ((0, CHARTER),), ((5, CHARTER), (6, self.OTHER)), ((0, self.OTHER), (9, CHARTER), (10 ** 40, CHARTER)),
                      tuple((volume, CHARTER) for volume in range(100))):
            same(self, made_charters(thing), thing)

    def test_no_tuple(self):
        for thing in NO_TUPLES + ([], [(0, CHARTER)]):
            refuses(self, BadCharters, -1, made_charters, thing)

    def test_the_first_bad_item(self):
        for item in NO_TUPLES + ((), (0,), (7, CHARTER, 0), [7, CHARTER], CHARTER, (7, TWO), (7, None), (CHARTER, 7),
                                 (-1, CHARTER), (7, (TWO, HOPELESS)), (7, ((37, 3, (0, 1)), LOSE)), nested(19)) + tuple(
                                     (number, CHARTER) for number in NO_NUMBERS + (None,)):
            refuses(self, BadCharters, 0, made_charters, (item,))
            refuses(self, BadCharters, 1, made_charters, ((3, CHARTER), item, item))
            refuses(self, BadCharters, 2, made_charters, ((3, CHARTER), (4, CHARTER), item, (4, CHARTER)))

    def test_volumes_that_do_not_ascend(self):
        refuses(self, BadCharters, 1, made_charters, ((3, CHARTER), (3, CHARTER)))
        refuses(self, BadCharters, 1, made_charters, ((3, CHARTER), (2, self.OTHER), (1, None)))
        refuses(self, BadCharters, 2, made_charters, ((0, CHARTER), (2, CHARTER), (1, CHARTER)))
        refuses(self, BadCharters, 2, made_charters, ((0, CHARTER), (2, CHARTER), (0, CHARTER), (3, CHARTER)))

    def test_by_name(self):
        same(self, made_charter(thing=CHARTER), CHARTER)
        same(self, is_charter(thing=CHARTER), True)
        same(self, made_charters(thing=()), ())


if __name__ == "__main__":
    unittest.main()
