"""The figures of groups ([19.5], [19.7], [19.8])."""

import random
import unittest

from firstsafe.errors import BadFigures
from firstsafe.deeds import made_group
from firstsafe.groups import group_figures, groups_of
from tests.helper import NO_NUMBERS, NO_TUPLES, SIGNS, figures_changed, refuses, same, some_group

EXCHANGED = (0, 1, 2, 3, 4, 5, 6, 7, 8, 9, 35, 36, 40, 41, -1)


class Ended(Exception):
    """The figures end here."""


class Fault(Exception):
    """No figures of groups go on so."""


def figure_at(figures, at, least, most):
    """The figure, if it may stand there."""
    if at >= len(figures):
        raise Ended
    if type(figures[at]) is not int or not least <= figures[at] <= most:
        raise Fault(at)
    return figures[at]


def name_at(figures, at):
    """A name and the place behind it."""
    many = figure_at(figures, at, 1, 6)
    return "".join(SIGNS[figure_at(figures, at + 1 + n, 0, 35)] for n in range(many)), at + 1 + many


def group_at(p, figures, at):
    """A group and the place behind it, by the words of [19.5]."""
    many, at, deeds = figure_at(figures, at, 1, 8), at + 1, []
    for _ in range(many):
        word = {1: "put", 2: "drop", 3: "move", 4: "swap"}[figure_at(figures, at, 1, 4)]
        name, at = name_at(figures, at + 1)
        if word == "put":
            length = figure_at(figures, at, 0, 40)
            deeds.append((word, name, tuple(figure_at(figures, at + 1 + n, 0, p - 1) for n in range(length))))
            at += 1 + length
        elif word == "drop":
            deeds.append((word, name))
        else:
            other, at = name_at(figures, at)
            deeds.append((word, name, other))
    return tuple(deeds), at


def check_groups_of(case, p, figures):
    """`groups_of` says what the words of [19.7] do; which of the three it is."""
    groups, at = [], 0
    try:
        while at < len(figures):
            group, end = group_at(p, figures, at)
            groups.append(group)
            at = end
    except Ended:
        same(case, groups_of(p, figures), (tuple(groups), len(figures) - at))
        return "cut"
    except Fault as fault:
        refuses(case, BadFigures, fault.args[0], groups_of, p, figures)
        return "fault"
    same(case, groups_of(p, figures), (tuple(groups), 0))
    same(case, sum(map(group_figures, groups), ()), figures)
    return "groups"


class Figures(unittest.TestCase):
    def test_of_all_words(self):
        same(self, group_figures((("put", "a", ()),)), (1, 1, 1, 0, 0))
        same(self, group_figures((("put", "z9", (40, 0)),)), (1, 1, 2, 25, 35, 2, 40, 0))
        same(self, group_figures((("drop", "c"),)), (1, 2, 1, 2))
        same(self, group_figures((("move", "a", "b0"),)), (1, 3, 1, 0, 2, 1, 26))
        same(self, group_figures((("swap", "abcdef", "9"),)), (1, 4, 6, 0, 1, 2, 3, 4, 5, 1, 35))
        same(self, group_figures((("drop", "a"), ("put", "b", (7,)), ("drop", "a"))), (3, 2, 1, 0, 1, 1, 1, 1, 7, 2, 1, 0))
        same(self, group_figures((("drop", "a"),) * 8), (8,) + (2, 1, 0) * 8)

    def test_groups_by_chance_are_read_back(self):
        chance = random.Random(1)
        for _ in range(200):
            p = chance.choice((41, 43, 65521))
            groups = tuple(some_group(chance, p, 8) for _ in range(chance.randint(0, 4)))
            same(self, groups_of(p, sum(map(group_figures, groups), ())), (groups, 0))
            for group in groups:
                same(self, made_group(p, group), group)


class Reading(unittest.TestCase):
    def test_cut_at_each_place(self):
        chance = random.Random(2)
        for _ in range(40):
            groups = tuple(some_group(chance, 41, 3) for _ in range(3))
            parts = [group_figures(group) for group in groups]
            figures = sum(parts, ())
            ends = [sum(map(len, parts[:many])) for many in range(4)]
            for end in range(len(figures) + 1):
                whole = max(many for many in range(4) if ends[many] <= end)
                same(self, groups_of(41, figures[:end]), (groups[:whole], end - ends[whole]))

    def test_one_figure_exchanged_also_in_a_group_that_is_cut(self):
        chance = random.Random(3)
        said = {"cut": 0, "fault": 0, "groups": 0}
        for _ in range(40):
            figures = group_figures(some_group(chance, 41, 3)) + group_figures(some_group(chance, 41, 2))
            for changed in figures_changed(figures[:chance.randint(1, len(figures))], EXCHANGED):
                said[check_groups_of(self, 41, changed)] += 1
        self.assertGreater(min(said.values()), 300)

    def test_figures_by_chance(self):
        chance = random.Random(4)
        said = {"cut": 0, "fault": 0, "groups": 0}
        for _ in range(4000):
            figures = tuple(chance.choice((0, 1, 1, 1, 2, 2, 3, 4, 9, 36)) for _ in range(chance.randint(0, 14)))
            said[check_groups_of(self, 41, figures)] += 1
        self.assertGreater(min(said.values()), 50)

    def test_each_kind_of_fault(self):
        figures = (2, 1, 2, 3, 4, 2, 5, 6, 3, 1, 7, 1, 8)
        same(self, groups_of(41, figures), (((("put", "de", (5, 6)), ("move", "h", "i")),), 0))
        for at, low, high in ((0, 1, 8), (1, 1, 4), (2, 1, 6), (3, 0, 35), (4, 0, 35), (5, 0, 40), (6, 0, 40), (7, 0, 40),
                              (8, 1, 4), (9, 1, 6), (10, 0, 35), (11, 1, 6), (12, 0, 35)):
            for wrong in (low - 1, high + 1, 41, 10 ** 40, None) + NO_NUMBERS:
                refuses(self, BadFigures, at, groups_of, 41, figures[:at] + (wrong,) + figures[at + 1:])
                refuses(self, BadFigures, at, groups_of, 41, figures[:at] + (wrong,))
                refuses(self, BadFigures, at + 13, groups_of, 41, figures + figures[:at] + (wrong,))
            for right in (low, high):
                self.assertNotEqual(check_groups_of(self, 41, figures[:at] + (right,)), "fault")
        same(self, groups_of(43, (1, 1, 1, 0, 1, 42)), (((("put", "a", (42,)),),), 0))

    def test_names_need_not_ascend(self):
        group = (("put", "b", ()), ("put", "a", ()), ("move", "9", "0"), ("swap", "z", "z"))
        same(self, groups_of(41, group_figures(group)), ((group,), 0))

    def test_no_figures_and_no_tuple(self):
        same(self, groups_of(41, ()), ((), 0))
        for thing in NO_TUPLES + ([], [1, 2, 1, 2]):
            refuses(self, BadFigures, -1, groups_of, 41, thing)


class Example(unittest.TestCase):
    def test_19_8(self):
        same(self, group_figures((("drop", "c"),)), (1, 2, 1, 2))
        same(self, groups_of(41, (1, 2, 1, 2, 2, 1)), (((("drop", "c"),),), 2))
        refuses(self, BadFigures, 4, groups_of, 41, (1, 2, 1, 2, 9))

    def test_by_name(self):
        same(self, group_figures(group=(("drop", "c"),)), (1, 2, 1, 2))
        same(self, groups_of(figures=(), p=41), ((), 0))


if __name__ == "__main__":
    unittest.main()
