"""Names, rows, states and their figures ([19.1], [19.5], [19.6])."""

import random
import unittest

from firstsafe.errors import BadFigures
from firstsafe.figures import image, is_name, is_state, state_of
from tests.helper import (NO_NUMBERS, NO_TUPLES, SIGNS, STRANGE, figures_changed, nested, refuses, same, some_name, some_state,
                          spoiled)

NO_PRIMES = (0, 1, 2, 37, 39, 40, 42, 49, 65537, 65519 * 65521, -41, None, (41,)) + NO_NUMBERS
STATE = (("a", (5, 6)), ("b0", ()), ("b00", (0,) * 40))


def order(name):
    """A text for the name that Python compares as names are compared."""
    return "".join(chr(SIGNS.index(sign) + 48) for sign in name)


def may_follow(length, signs, before):
    """True if some name of this length that begins with these numbers of signs is greater than the name before."""
    greatest = order("".join(SIGNS[sign] for sign in signs)) + order("9") * (length - len(signs))
    return before is None or greatest > order(before)


def pairs_in(p, figures):
    """(pairs, True) if an image begins with the figures and they end behind a pair; (None, True) if within one.

    (None, False) if no image begins with them.
    """
    pairs, at, before = [], 0, None
    while at < len(figures):
        length, signs = figures[at], figures[at + 1:at + 1 + figures[at]]
        if not 1 <= length <= 6 or not all(0 <= sign <= 35 for sign in signs) or not may_follow(length, signs, before):
            return (None, False)
        at += 1 + length
        if at >= len(figures):
            return (None, True)
        row = figures[at + 1:at + 1 + figures[at]]
        if not 0 <= figures[at] <= 40 or not all(0 <= number < p for number in row):
            return (None, False)
        at += 1 + figures[at]
        if at > len(figures):
            return (None, True)
        before = "".join(SIGNS[sign] for sign in signs)
        pairs.append((before, row))
    return (tuple(pairs), True)


def check_state_of(case, p, figures):
    """`state_of` says what the words of [19.6] do; which of the three it is."""
    for end in range(1, len(figures) + 1):
        if not pairs_in(p, figures[:end])[1]:
            refuses(case, BadFigures, end - 1, state_of, p, figures)
            return "fault"
    pairs, _ = pairs_in(p, figures)
    if pairs is None:
        refuses(case, BadFigures, len(figures), state_of, p, figures)
        return "within"
    same(case, state_of(p, figures), pairs)
    same(case, image(pairs), figures)
    case.assertIs(is_state(p, pairs), True)
    return "state"


class Names(unittest.TestCase):
    def test_names(self):
        for name in ("a", "z", "0", "9", "abcdef", "000000", "9z", "put", "drop", "nothing"[:6]):
            same(self, is_name(name), True)
        for sign in SIGNS:
            same(self, (is_name(sign), is_name("a" + sign), is_name(sign * 6)), (True, True, True))

    def test_others(self):
        for thing in ("", "abcdefg", "0000000", "A", "aB", "a b", " a", "a ", "a-", "a_", "a:", "\u00e4", "a\u0663", "a\n", "-",
                      ("a",), ["a"], b"a", None, True, 0, nested(20, "a")):
            same(self, is_name(thing), False)
        for thing in STRANGE:
            same(self, is_name(thing), thing in ("1", "abc"))


class States(unittest.TestCase):
    def test_states(self):
        for state in ((), (("a", ()),), STATE, (("a", (40,)), ("aa", ()), ("b", ()), ("z", ()), ("0", ()), ("99", ()))):
            same(self, is_state(41, state), True)
        same(self, is_state(65521, (("a", (65520,)),)), True)
        same(self, is_state(43, tuple((sign, (42,) * 40) for sign in SIGNS)), True)

    def test_names_ascend_by_the_numbers_of_their_signs(self):
        names = ["a", "aa", "aaaaaa", "ab", "az", "a0", "a9", "a9a", "b", "ba", "z", "z9", "0", "0a", "00", "1", "9", "9a", "99",
                 "999999"]
        same(self, is_state(41, tuple((name, ()) for name in names)), True)
        for one in range(len(names)):
            for two in range(len(names)):
                same(self, is_state(41, ((names[one], ()), (names[two], ()))), one < two)
        same(self, is_state(41, (("a", ()), ("c", ()), ("b", ()))), False)
        same(self, is_state(41, (("b", ()), ("a", ()), ("c", ()))), False)
        same(self, is_state(41, (("a", (1,)), ("a", (2,)))), False)

    def test_rows_of_0_40_and_41_numbers(self):
        for many, wanted in ((0, True), (1, True), (39, True), (40, True), (41, False), (1000, False)):
            same(self, is_state(41, (("a", (7,) * many),)), wanted)
        for number, wanted in ((-1, False), (0, True), (40, True), (41, False), (10 ** 40, False)):
            same(self, is_state(41, (("a", (0, number)),)), wanted)
        for number, wanted in ((42, True), (43, False)):
            same(self, is_state(43, (("a", ()), ("b", (number,)))), wanted)

    def test_primes_below_41_and_no_primes(self):
        for p in NO_PRIMES:
            same(self, is_state(p, ()), False)
        for p in (41, 43, 47, 997, 65519, 65521):
            same(self, is_state(p, ()), True)

    def test_strange_things_are_judged(self):
        state = (("0", (5, 6)), ("1", ()))
        same(self, is_state(41, state), True)
        for thing in STRANGE + tuple(spoiled(state)) + (
                [], list(STATE), tuple(map(list, STATE)), (("a",),), (("a", (), ()),), (("a", [1]),), (("A", ()),), (("", ()),),
                (((), "a"),), ("a", ()), (("a", (True,)),)):
            same(self, is_state(41, thing), thing in ((), state))


class Images(unittest.TestCase):
    def test_figures_of_names_and_rows(self):
        same(self, image(()), ())
        same(self, image((("a", ()),)), (1, 0, 0))
        same(self, image((("z", (40,)), ("0", (1, 2)))), (1, 25, 1, 40, 1, 26, 2, 1, 2))
        same(self, image((("abc789", (0,) * 40),)), (6, 0, 1, 2, 33, 34, 35, 40) + (0,) * 40)

    def test_states_by_chance_are_read_back(self):
        chance = random.Random(1)
        for _ in range(200):
            p = chance.choice((41, 43, 65521))
            state = some_state(chance, p, 8)
            same(self, is_state(p, state), True)
            same(self, state_of(p, image(state)), state)


class Reading(unittest.TestCase):
    def test_each_beginning_of_an_image(self):
        chance = random.Random(2)
        for _ in range(40):
            state = some_state(chance, 41, 5)
            figures = image(state)
            ends = [len(image(state[:many])) for many in range(len(state) + 1)]
            for end in range(len(figures) + 1):
                if end in ends:
                    same(self, state_of(41, figures[:end]), state[:ends.index(end)])
                else:
                    refuses(self, BadFigures, end, state_of, 41, figures[:end])

    def test_images_with_one_figure_exchanged(self):
        chance = random.Random(3)
        said = {"fault": 0, "within": 0, "state": 0}
        for _ in range(30):
            for figures in figures_changed(image(some_state(chance, 41, 4)), (0, 1, 6, 7, 25, 26, 35, 36, 40, 41, -1)):
                said[check_state_of(self, 41, figures)] += 1
        self.assertGreater(min(said.values()), 500)

    def test_figures_by_chance(self):
        chance = random.Random(4)
        said = {"fault": 0, "within": 0, "state": 0}
        for _ in range(4000):
            figures = tuple(chance.choice((0, 0, 1, 1, 1, 2, 2, 34, 35)) for _ in range(chance.randint(0, 14)))
            said[check_state_of(self, 41, figures)] += 1
        self.assertGreater(min(said.values()), 50)

    def test_behind_a_name_nothing_may_be_able_to_follow(self):
        """The index of the first length or sign behind which a name can no longer become greater."""
        for before, figures, what in (
                ("9", (1,), 0), ("9", (1, 35), 0), ("9", (2, 34), 1), ("9", (2, 35, 0, 0), None), ("9", (2, 0), 1),
                ("99", (1,), 0), ("99", (2,), 0), ("99", (3, 35, 34), 2), ("99", (3, 35, 35, 0, 0), None), ("999999", (1,), 0),
                ("999999", (6,), 0), ("999999", (6, 35, 35, 35, 35, 35, 35), 0), ("b", (1, 0), 1), ("b", (1, 1), 1),
                ("b", (1, 2, 0), None), ("b", (2, 1, 0, 0), None), ("b", (2, 0), 1), ("b9", (1, 1), 1), ("b9", (2, 1), 1),
                ("b9", (2, 2, 0, 0), None), ("b9", (3, 1, 34), 2), ("b9", (3, 1, 35, 0, 0), None), ("ba", (1, 1), 1),
                ("ba", (2, 1, 0), 2), ("ba", (2, 1, 1, 0), None), ("ba", (3, 1, 0, 0, 0), None), ("99998", (5, 35, 35, 35, 35), None),
                ("99998", (5, 35, 35, 35, 35, 34), 5), ("z", (1, 26, 0), None), ("0", (1, 25), 1), ("999998", (5,), 0),
                ("999998", (6, 35, 35, 35, 35, 35, 35, 0), None), ("9999", (4,), 0), ("9999", (5, 35, 35, 35, 35, 0, 0), None)):
            ahead = image(((before, (3,)),))
            if what is not None:
                refuses(self, BadFigures, len(ahead) + what, state_of, 41, ahead + figures)
            elif check_state_of(self, 41, ahead + figures) == "within":
                refuses(self, BadFigures, len(ahead + figures), state_of, 41, ahead + figures)

    def test_each_kind_of_fault(self):
        for wrong in NO_NUMBERS + (None, -1, 10 ** 40):
            for at in range(6):
                figures = (2, 3, 4, 2, 5, 6)
                refuses(self, BadFigures, at, state_of, 41, figures[:at] + (wrong,) + figures[at + 1:])
        for at, low, high in ((0, 1, 6), (1, 0, 35), (2, 0, 35), (3, 0, 40), (4, 0, 40), (5, 0, 40)):
            for wrong in (low - 1, high + 1):
                refuses(self, BadFigures, at, state_of, 41, figures[:at] + (wrong,) + figures[at + 1:])
                refuses(self, BadFigures, at, state_of, 41, figures[:at] + (wrong, None))
        same(self, state_of(43, (1, 0, 1, 42)), (("a", (42,)),))
        refuses(self, BadFigures, 3, state_of, 43, (1, 0, 1, 43))
        refuses(self, BadFigures, 2, state_of, 43, (1, 0, 41, 0))

    def test_the_end_comes_behind_a_fault(self):
        refuses(self, BadFigures, 1, state_of, 41, (1,))
        refuses(self, BadFigures, 1, state_of, 41, (1, 36))
        refuses(self, BadFigures, 0, state_of, 41, (7,))
        refuses(self, BadFigures, 4, state_of, 41, (1, 0, 40, 0))
        refuses(self, BadFigures, 2, state_of, 41, (1, 0))
        same(self, state_of(41, ()), ())

    def test_no_tuple(self):
        for thing in NO_TUPLES + ([], [1, 0, 0]):
            refuses(self, BadFigures, -1, state_of, 41, thing)

    def test_long_states(self):
        state = tuple((name, (40,) * 40) for name in sorted({some_name(random.Random(n)) for n in range(300)}, key=order))
        same(self, state_of(41, image(state)), state)
        refuses(self, BadFigures, len(image(state)) - 1, state_of, 41, image(state)[:-1])


class Example(unittest.TestCase):
    def test_19_8(self):
        same(self, image((("a", (5, 6)), ("b0", ()))), (1, 0, 2, 5, 6, 2, 1, 26, 0))
        refuses(self, BadFigures, 4, state_of, 41, (1, 0, 2, 5))
        refuses(self, BadFigures, 4, state_of, 41, (1, 1, 0, 1, 0, 0))
        refuses(self, BadFigures, 3, state_of, 41, (1, 35, 0, 1, 35, 0))

    def test_by_name(self):
        same(self, is_name(thing="a"), True)
        same(self, is_state(thing=(), p=41), True)
        same(self, image(state=()), ())
        same(self, state_of(figures=(), p=41), ())


if __name__ == "__main__":
    unittest.main()
