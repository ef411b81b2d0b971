"""Deeds, groups and what they do ([19.2] to [19.4])."""

import random
import unittest

from firstsafe.deeds import applied, is_deed, made_group
from firstsafe.errors import BadGroup, NoName, There
from firstsafe.figures import is_state
from tests.helper import NO_NUMBERS, NO_TUPLES, SIGNS, STRANGE, nested, refuses, same, some_deed, some_group, some_state

DEEDS = (("put", "a", ()), ("put", "abc789", (0, 40)), ("drop", "0"), ("move", "a", "b"), ("move", "a", "a"), ("swap", "a", "b"),
         ("swap", "z9", "z9"), ("put", "b", (1,) * 40))
NO_DEEDS = (None, (), ("put",), ("put", "a"), ("drop",), ("move", "a"), ("swap", "a"), ("put", "a", (), ()), ("drop", "a", "b"),
            ("drop", "a", ()), ("move", "a", "b", "c"), ("swap", "a", "b", "c"), ("move", "a", ()), ("swap", "a", (1,)),
            ("put", "a", "b"), ("put", "a", 5), ("put", "a", [5]), ("put", "a", (41,)), ("put", "a", (-1,)),
            ("put", "a", (True,)), ("put", "a", (0,) * 41), ("put", "", ()), ("put", "abcdefg", ()), ("put", "A", ()),
            ("put", None, ()), ("put", ("a",), ()), ("drop", ""), ("drop", "a b"), ("drop", 0), ("move", "a", ""),
            ("move", "", "a"), ("move", "a", "abcdefg"), ("swap", "a", None), ("swap", 1, "a"), ("Put", "a", ()),
            ("take", "a"), ("", "a"), (1, "a", ()), (2, "a"), (None, "a"), ("drop ", "a"), ["drop", "a"], ("drop", ["a"]),
            "drop", ("a", "drop"), (("drop", "a"),), {"drop": "a"}, nested(19), ("put", "a", (0.5,)), ("put", "a", nested(18)))
NO_PRIMES = (0, 1, 2, 37, 40, 42, 65537, -41, None, (41,)) + NO_NUMBERS


class Deeds(unittest.TestCase):
    def test_deeds(self):
        for deed in DEEDS:
            same(self, is_deed(41, deed), True)
        same(self, (is_deed(43, ("put", "a", (42,))), is_deed(43, ("put", "a", (43,)))), (True, False))
        same(self, is_deed(65521, ("put", "a", (65520,))), True)

    def test_others(self):
        for thing in NO_DEEDS + STRANGE:
            same(self, is_deed(41, thing), False)

    def test_primes_below_41_and_no_primes(self):
        for p in NO_PRIMES:
            for deed in DEEDS:
                same(self, is_deed(p, deed), False)


class Groups(unittest.TestCase):
    def test_groups_of_1_and_8_deeds(self):
        for group in (DEEDS, DEEDS[:1], (("drop", "a"),) * 8, (("move", "x", "x"), ("put", "x", ()), ("drop", "x"))):
            same(self, made_group(41, group), group)
        for deed in DEEDS:
            same(self, made_group(41, (deed,)), (deed,))

    def test_groups_of_0_and_9_deeds_and_no_tuples(self):
        for thing in NO_TUPLES + ((), DEEDS + DEEDS[:1], (("drop", "a"),) * 9, (None,) * 9, [("drop", "a")]):
            refuses(self, BadGroup, -1, made_group, 41, thing)

    def test_the_first_bad_deed(self):
        for thing in NO_DEEDS:
            refuses(self, BadGroup, 0, made_group, 41, (thing,))
            refuses(self, BadGroup, 1, made_group, 41, (DEEDS[0], thing, None))
            refuses(self, BadGroup, 7, made_group, 41, DEEDS[:7] + (thing,))
        refuses(self, BadGroup, 0, made_group, 41, ("drop", "a"))
        refuses(self, BadGroup, 1, made_group, 43, (("put", "a", (42,)), ("put", "a", (43,))))


def plainly(state, group):
    """The state after the group by a plain dictionary, or the class and the `what` of the error."""
    rows = dict(state)
    for index, (word, name, *rest) in enumerate(group):
        wanted = {"put": [], "drop": [name], "move": [name], "swap": [name] + rest}[word]
        for one in wanted:
            if one not in rows:
                return (NoName, (index, one))
        if word == "put":
            rows[name] = rest[0]
        elif word == "drop":
            del rows[name]
        elif word == "move":
            if rest[0] in rows:
                return (There, (index, rest[0]))
            rows[rest[0]] = rows.pop(name)
        else:
            rows[name], rows[rest[0]] = rows[rest[0]], rows[name]
    return tuple(sorted(rows.items(), key=lambda item: [SIGNS.index(sign) for sign in item[0]]))


class Applied(unittest.TestCase):
    STATE = (("a", (1,)), ("b", (2, 2)), ("0", ()))

    def test_each_word(self):
        for deed, wanted in (
                (("put", "a", (5,)), (("a", (5,)), ("b", (2, 2)), ("0", ()))),
                (("put", "z", ()), (("a", (1,)), ("b", (2, 2)), ("z", ()), ("0", ()))),
                (("drop", "b"), (("a", (1,)), ("0", ()))),
                (("move", "a", "1"), (("b", (2, 2)), ("0", ()), ("1", (1,)))),
                (("swap", "a", "b"), (("a", (2, 2)), ("b", (1,)), ("0", ()))),
                (("swap", "0", "a"), (("a", ()), ("b", (2, 2)), ("0", (1,)))),
                (("swap", "b", "b"), self.STATE)):
            same(self, applied(self.STATE, (deed,)), wanted)
        same(self, applied((), (("put", "a", (1,)),)), (("a", (1,)),))
        same(self, applied((("a", ()),), (("drop", "a"),)), ())

    def test_deeds_one_after_the_other(self):
        same(self, applied((), (("put", "a", (1,)), ("move", "a", "b"), ("put", "a", (2,)), ("swap", "a", "b"), ("drop", "b"))),
             (("a", (1,)),))
        same(self, applied(self.STATE, (("drop", "a"), ("move", "b", "a"), ("move", "a", "b"), ("put", "b", ()))),
             (("b", ()), ("0", ())))

    def test_names_that_are_not_there(self):
        for deed, what in ((("drop", "c"), "c"), (("move", "c", "a"), "c"), (("move", "c", "c"), "c"), (("swap", "c", "a"), "c"),
                           (("swap", "a", "c"), "c"), (("swap", "c", "d"), "c"), (("swap", "c", "c"), "c"), (("drop", "aa"), "aa")):
            refuses(self, NoName, (0, what), applied, self.STATE, (deed,))
            refuses(self, NoName, (2, what), applied, self.STATE, (("put", "x", ()), ("drop", "x"), deed, ("drop", "y")))
        refuses(self, NoName, (1, "a"), applied, self.STATE, (("drop", "a"), ("drop", "a")))
        refuses(self, NoName, (1, "a"), applied, self.STATE, (("move", "a", "z"), ("swap", "b", "a")))
        refuses(self, NoName, (0, "a"), applied, (), (("swap", "a", "b"),))

    def test_names_that_are_there(self):
        refuses(self, There, (0, "b"), applied, self.STATE, (("move", "a", "b"),))
        refuses(self, There, (0, "a"), applied, self.STATE, (("move", "a", "a"),))
        refuses(self, There, (7, "z"), applied, self.STATE, (("swap", "a", "a"),) * 6 + (("put", "z", ()), ("move", "a", "z")))
        refuses(self, There, (1, "b"), applied, self.STATE, (("put", "c", ()), ("move", "c", "b"), ("drop", "y")))
        same(self, applied(self.STATE, (("drop", "b"), ("move", "a", "b"))), (("b", (1,)), ("0", ())))

    def test_the_state_that_is_handed_in_stays_as_it_is(self):
        state = tuple(self.STATE)
        applied(state, (("put", "a", (9,)), ("drop", "b"), ("move", "a", "q")))
        refuses(self, NoName, (1, "y"), applied, state, (("drop", "a"), ("drop", "y")))
        same(self, state, (("a", (1,)), ("b", (2, 2)), ("0", ())))

    def test_beside_a_plain_dictionary(self):
        chance = random.Random(1)
        said = {"state": 0, NoName: 0, There: 0}
        for _ in range(3000):
            state, group = some_state(chance, 41, 9), some_group(chance, 41, chance.choice((1, 2, 8)))
            for deed in group:
                same(self, is_deed(41, deed), True)
            same(self, made_group(41, group), group)
            wanted = plainly(state, group)
            if wanted and wanted[0] in (NoName, There):
                refuses(self, wanted[0], wanted[1], applied, state, group)
                said[wanted[0]] += 1
            else:
                same(self, applied(state, group), wanted)
                same(self, is_state(41, wanted), True)
                said["state"] += 1
        self.assertGreater(min(said.values()), 25)

    def test_many_names(self):
        state = tuple((one + two, ()) for one in SIGNS for two in SIGNS)
        same(self, applied(state, (("drop", "zz"), ("put", "z", (1,)))),
             tuple(sorted((set(state) - {("zz", ())}) | {("z", (1,))}, key=lambda item: [SIGNS.index(sign) for sign in item[0]])))

    def test_by_name(self):
        deed = some_deed(random.Random(1), 41)
        same(self, is_deed(thing=deed, p=41), True)
        same(self, made_group(thing=(deed,), p=41), (deed,))
        same(self, applied(group=(("put", "a", ()),), state=()), (("a", ()),))


if __name__ == "__main__":
    unittest.main()
