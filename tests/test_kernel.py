"""The judges of doubts and of papers ([6.5], [7.3], [0.2])."""

import random
import unittest

from firstsafe.errors import Refused
from firstsafe.grounds import is_batch
from firstsafe.kernel import doubt_right, told_right
from firstsafe.readers import read
from firstsafe.safety import safe
from firstsafe.stops import stopped
from firstsafe.tapes import is_reading, is_weaving, written
from firstsafe.telling import told_paper
from firstsafe.worlds import doubt
from tests.helper import (
    FINE, NO_NUMBERS, STRANGE, TOLD, bent, check_doubt, judged, judged_false, paper_is_right, runs_as_shown, same,
    some_book, some_cases, some_readings, some_stop, spoiled)

TWO = (5, 2, (0, 5))
NOTHING = ((FINE, FINE),)
NO_BATCH_NUMBERS = NO_NUMBERS + (None, 64, -1, 10 ** 40)
NO_GROUNDS = ((4, 2, (0, 5)), (5, 0, (0, 5)), (5, 13, (0, 5)), (5, 2, (0, 0)), (5, 2, (0, 6)), (5, 2))


def is_doubt(ground, book, told, weaving, b, thing):
    """True if the thing is a doubt by the words of [6.5]."""
    try:
        check_doubt(unittest.TestCase(), ground, book, told, weaving, b, thing)
    except (AssertionError, Refused, ValueError, TypeError):
        return False
    return True


def shifted(ground, weaving, b, thing, by):
    """The doubt with another batch added to both of its batches."""
    p, k, _ = ground
    i, j, one, two, first, second, other = thing
    one, two = [tuple((x + y) % p for x, y in zip(batch, by)) for batch in (one, two)]
    zeros = ((0,) * k,) * 64
    worlds = [written(ground, zeros[:b] + (batch,) + zeros[b + 1:], weaving) for batch in (one, two)]
    stops = ([], [])
    for shelf, tape in enumerate(weaving):
        left = len(tape) - first[shelf][0]
        for stop, (gone, wrong), shown in ((stops[0], first[shelf], worlds[1]), (stops[1], second[shelf], worlds[0])):
            stop.append((gone, shown[shelf][left - len(wrong):left]))
    return (i, j, one, two, tuple(stops[0]), tuple(stops[1]), other)


class DoubtRight(unittest.TestCase):
    def some_doubts(self, seed, times):
        for ground, book, told, weaving in some_cases(seed, times):
            for b in (0, 7):
                if not safe(ground, book, told, weaving, b):
                    yield ground, book, told, weaving, b, doubt(ground, book, told, weaving, b)

    def test_what_is_returned(self):
        for case in self.some_doubts(21, 400):
            same(self, doubt_right(*case), True)

    def test_what_is_not_returned_but_right(self):
        chance = random.Random(22)
        for ground, book, told, weaving, b, thing in self.some_doubts(23, 200):
            by = tuple(chance.randrange(ground[0]) for _ in range(ground[1]))
            other = shifted(ground, weaving, b, thing, by)
            self.assertTrue(is_doubt(ground, book, told, weaving, b, other))
            same(self, doubt_right(ground, book, told, weaving, b, other), True)
            if told:
                i, j, one, two, first, second, _ = thing
                same(self, doubt_right(ground, book, told, weaving, b, (j, i, two, one, second, first, weaving)), True)

    def test_one_part_bent(self):
        said = {True: 0, False: 0}
        for case in self.some_doubts(24, 40):
            answers = judged(self, doubt_right, case, 5, lambda other: is_doubt(*case[:5], other))
            for answer in said:
                said[answer] += answers[answer]
        self.assertGreater(said[True], 50)
        self.assertGreater(said[False], 2000)

    def test_another_question(self):
        """The doubt of another batch, weaving or book, and with `told` the other way round."""
        said = {True: 0, False: 0}
        for ground, book, told, weaving, b, thing in self.some_doubts(25, 150):
            questions = [(ground, book, not told, weaving, b, thing), (ground, book, told, weaving, 1, thing)]
            questions += [(ground, book[::-1], told, weaving, b, thing), (ground, book[1:], told, weaving, b, thing)]
            questions += [(ground, book, told, weaving[:-1] + (weaving[-1] + (b,),), b, thing)]
            questions += [(ground, book, told, weaving[:-1] + (weaving[-1][1:],), b, thing)]
            for question in questions:
                answer = doubt_right(*question)
                same(self, answer, bool(question[1]) and is_doubt(*question))
                said[answer] += 1
        self.assertGreater(min(said.values()), 50)

    def test_every_detail(self):
        """One shelf, whose last cell may be gone or wrong; the batch 0 was written once and then batch 9."""
        ground, book, weaving = (5, 1, (0,)), (((1, 0),), ((0, 1),)), ((0, 9),)
        gone, kept, wrong = ((1, ()),), ((0, ()),), ((0, ((9, 0),)),)
        two_cells = (((2, 0),),)
        for told, thing, wanted in (
                # The tape of the second world may be any one whose batch 0 has another number.
                (False, (0, 1, (0,), (1,), gone, ((0, ((0, 0),)),), ((0,),)), True),
                (False, (0, 1, (0,), (1,), gone, ((0, ((0, 1),)),), ((0,),)), False),
                (False, (0, 0, (0,), (1,), gone, gone, ((0,),)), False),
                (False, (0, 1, (3,), (1,), gone, ((0, ((0, 3),)),), ((63,),)), True),
                (False, (1, 1, (0,), (1,), kept, ((0, ((9, 0),)),), ((0, 9),)), False),
                (False, (0, 1, (0,), (0,), gone, ((0, ((0, 0),)),), ((0,),)), False),
                (True, (0, 1, (0,), (1,), gone, ((0, ((0, 0),)),), ((0,),)), False),
                (True, (0, 1, (0,), (1,), gone, wrong, weaving), False),
                # No tape is too short for its stop.
                (False, (0, 1, (0,), (1,), gone, ((0, ((0, 0), (0, 0))),), ((0,),)), False),
                (False, (0, 1, (0,), (1,), gone, ((0, ((0, 0),)),), ((),)), False),
                # What is wrong may be right.
                (False, (1, 1, (0,), (1,), wrong, wrong, ((0, 9),)), False)):
            same(self, is_doubt(ground, book, told, weaving, 0, thing), wanted)
            same(self, doubt_right(ground, book, told, weaving, 0, thing), wanted)
        same(self, doubt_right(ground, two_cells, True, weaving, 0, (0, 0, (0,), (1,), ((2, ()),), ((2, ()),), weaving)), True)
        same(self, doubt_right(ground, two_cells, False, weaving, 0, (0, 0, (0,), (1,), ((2, ()),), ((0, ()),), ((),))), True)
        same(self, doubt_right(ground, two_cells, True, weaving, 0, (0, 0, (0,), (1,), ((2, ()),), ((0, ()),), ((),))), False)

    def test_no_doubt_of_a_safe_batch(self):
        ground, weaving = (2, 1, (0,)), ((0, 0),)
        stops = [((gone, wrong),) for gone in range(3) for many in range(3 - gone)
                 for wrong in {((0, 0),) * many, ((0, 1),) * many, ((0, 0), (0, 1))[:many], ((0, 1), (0, 0))[:many]}]
        for book in (((FINE,),), (((1, 0),),), (((0, 1),),), (((1, 0),), ((0, 1),))):
            for told in TOLD:
                others = [weaving] if told else [((),), ((0,),), ((0, 0),), ((0, 0, 0),), ((1, 0),)]
                right = [thing for thing in [
                    (i, j, (x,), (1 - x,), first, second, other) for i in range(len(book)) for j in range(len(book))
                    for x in (0, 1) for first in stops for second in stops for other in others]
                    if doubt_right(ground, book, told, weaving, 0, thing)]
                self.assertEqual(not right, safe(ground, book, told, weaving, 0))

    def test_arguments_of_a_wrong_form(self):
        for told in TOLD:
            ground, book, weaving = (5, 3, (0, 5)), (((1, 1), FINE), (FINE, (None, 0))), ((0, 1, 0), (0, 0))
            thing = doubt(ground, book, told, weaving, 0)
            case = (ground, book, told, weaving, 0, thing)
            judged_false(self, doubt_right, case, (
                STRANGE + NO_GROUNDS + tuple(spoiled(ground)), STRANGE + (book * 13,) + tuple(spoiled(book, ())),
                (None, 0, 1, "", "True", (), (told,), [told], 2), STRANGE + (weaving[:1],) + tuple(spoiled(weaving)),
                NO_BATCH_NUMBERS, STRANGE + tuple(spoiled(thing))))

    def test_by_name(self):
        ground, book, weaving = (5, 1, (0,)), (((1, 0),),), ((0,),)
        thing = (0, 0, (0,), (3,), ((1, ()),), ((1, ()),), weaving)
        same(self, doubt_right(thing=thing, b=0, weaving=weaving, told=True, book=book, ground=ground), True)


class ToldRight(unittest.TestCase):
    def some_papers(self, seed, times):
        for ground, book, told, weaving, batches, reading in some_readings(seed, times):
            stand = weaving if told else None
            for b in (0, 7):
                answer = read(ground, book, stand, reading, b)
                if answer[0] == "told":
                    yield ground, book, stand, reading, b, answer[1], told_paper(ground, book, stand, reading, b)

    def test_what_is_returned(self):
        for case in self.some_papers(31, 500):
            same(self, told_right(*case), True)

    def test_large_grounds(self):
        chance = random.Random(32)
        for ground in ((65521, 12, (65521, 0, 65520, 7)), (2, 4, (2, 1)), (7, 6, tuple(range(8)))):
            p, k, points = ground
            for _ in range(30):
                book = some_book(chance, len(points), 4)
                weaving = tuple((0,) * chance.randint(k, k + 9) for _ in points)
                batch = tuple(chance.randrange(p) for _ in range(k))
                reading = written(ground, (batch,), weaving)
                reading = stopped(ground, reading, some_stop(chance, ground, chance.choice(book), reading))
                for stand in (None, weaving):
                    answer = read(ground, book, stand, reading, 0)
                    if answer[0] == "told":
                        paper = told_paper(ground, book, stand, reading, 0)
                        case = (ground, book, stand, reading, 0)
                        same(self, told_right(*case, answer[1], paper), True)
                        wrong = answer[1][:-1] + ((answer[1][-1] + 1) % p,)
                        same(self, told_right(*case, wrong, paper), False)

    def test_one_part_bent(self):
        said = {True: 0, False: 0}
        words = set()
        for case in self.some_papers(33, 250):
            answers = judged(self, told_right, case, 6, lambda other: paper_is_right(*case[:6], other))
            words.update(entry[0] for entry in case[6])
            for answer in said:
                said[answer] += answers[answer]
        self.assertEqual(words, {"is", "no", "far"})
        self.assertGreater(said[True], 10)
        self.assertGreater(said[False], 5000)

    def test_another_question(self):
        said = {True: 0, False: 0}
        for ground, book, stand, reading, b, batch, paper in self.some_papers(34, 200):
            questions = [(ground, book, stand, other, b, batch, paper) for other in bent(reading)]
            questions += [(ground, book, stand, reading, b, other, paper) for other in bent(batch)]
            if stand is not None:
                questions += [(ground, book, other, reading, b, batch, paper) for other in bent(stand)]
            for question in questions[::3]:
                wanted = is_reading(ground, question[3]) and is_batch(ground, question[5]) and (
                    stand is None or is_weaving(ground, question[2])) and paper_is_right(*question)
                answer = told_right(*question)
                same(self, answer, wanted)
                said[answer] += 1
        self.assertGreater(min(said.values()), 100)

    def test_other_factors_that_give_the_same(self):
        """Three cells of a batch of two numbers: their factors are not unique."""
        reading = (((0, 1), (0, 2)), ((0, 2),))
        case = (TWO, NOTHING, None, reading, 0, (1, 2))
        for factors, wanted in ((((1, 0, 0), (0, 1, 0)), True), (((1, 0, 0), (0, 0, 1)), True),
                                (((1, 0, 0), (0, 3, 3)), True), (((1, 1, 4), (0, 4, 2)), True),
                                (((1, 1, 0), (0, 1, 0)), False), (((0, 1, 0), (1, 0, 0)), False),
                                (((1, 0, 0),), False), (((1, 0, 0), (0, 1, 0), (0, 0, 0)), False),
                                (((1, 0), (0, 1)), False), (((6, 0, 0), (0, 1, 0)), False), (((1, 0, 0), (0, -4, 0)), False),
                                (((1, 0, 0, 0), (0, 1, 0, 0)), False), (((1, 5, 0), (0, 1, 0)), False)):
            same(self, paper_is_right(*case, (("is", factors),)), wanted)
            same(self, told_right(*case, (("is", factors),)), wanted)

    def test_clashes_shown_in_other_ways(self):
        reading = (((0, 1), (0, 2), (9, 1), (9, 1), (9, 4), (9, 3)), ((8, 1),))
        book = (((0, 4), FINE), (FINE, FINE))
        for c, factors, wanted in ((9, (0, 0, 1, 0), True), (9, (0, 0, 3, 0), True), (9, (0, 0, 0, 1), True),
                                   (9, (0, 0, 1, 1), True), (9, (0, 0, 2, 4), False), (9, (0, 0, 0, 0), False),
                                   (9, (1, 0, 1, 0), False), (9, (0, 0, 1), False), (9, (0, 0, 1, 0, 0), False),
                                   (9, (0, 0, 1, 5), False), (0, (0, 0), False), (8, (0,), False), (5, (), False),
                                   (64, (), False), (-1, (), False), (True, (), False)):
            paper = (("is", ((1, 0), (0, 1))), ("no", c, factors))
            case = (TWO, book, None, reading, 0, (1, 2), paper)
            same(self, paper_is_right(*case), wanted)
            same(self, told_right(*case), wanted)

    def test_the_words_for_a_row_may_differ(self):
        """A row that is impossible for several reasons, for which an "is" may be right as well."""
        stand, reading = ((0, 0, 9), (8,)), (((0, 1), (0, 2), (7, 1), (7, 1), (7, 1)), ((9, 4), (9, 4)))
        book = (((0, 3), (0, None)), (FINE, FINE))
        for stood in (stand, None):
            for first, second, wanted in (
                    (("is", ((1, 0), (0, 1))), ("far", 0), stood is not None), (("is", ((1, 0), (0, 1))), ("far", 1), stood is not None),
                    (("is", ((1, 0), (0, 1))), ("no", 7, (0, 0, 1)), True),
                    (("is", ((1, 0), (0, 1))), ("is", ((1, 0), (0, 1))), True),
                    (("far", 0), ("is", ((1, 0), (0, 1))), stood is not None),
                    (("far", 0), ("far", 1), False), (("far", 1), ("is", ((1, 0), (0, 1))), stood is not None),
                    (("far", 0), ("no", 7, (0, 0, 1)), False), (("is", ((1, 0), (0, 1))), ("far", 2), False),
                    (("is", ((1, 0), (0, 1))), ("far", -1), False), (("is", ((1, 0), (0, 1))), ("far", False), False),
                    (("is", ((1, 0), (0, 1)), 0), ("far", 0), False), (("is", ((1, 0), (0, 1))), ("far", 0, 0), False),
                    (("is", ((1, 0), (0, 1))), ("far",), False), (("is", ((1, 0), (0, 1))), (), False),
                    (("is", ((1, 0), (0, 1))), ("no", 7), False), (("is", ((1, 0), (0, 1))), "far", False)):
                case = (TWO, book, stood, reading, 0, (1, 2), (first, second))
                same(self, paper_is_right(*case), wanted)
                same(self, told_right(*case), wanted)
            case = (TWO, book, stood, reading, 0, (1, 2))
            for paper in ((), (("is", ((1, 0), (0, 1))),), (("is", ((1, 0), (0, 1))),) * 3):
                same(self, told_right(*case, paper), False)

    def test_no_paper_for_another_batch(self):
        """Whatever the world, a right paper tells its batch."""
        reading = (((0, 1), (0, 0)), ((0, 0),))
        factors = [(a, b, c) for a in range(2) for b in range(2) for c in range(2)]
        for batch in ((0, 0), (0, 1), (1, 0), (1, 1)):
            right = [(one, two) for one in factors for two in factors
                     if told_right((2, 2, (0, 2)), NOTHING, None, reading, 0, batch, (("is", (one, two)),))]
            self.assertEqual(bool(right), batch == (1, 0))

    def test_arguments_of_a_wrong_form(self):
        stand = ((0, 0, 0, 9), (0, 9))
        reading = (((0, 1), (0, 2), (0, 3)), ((0, 2), (9, 4)))
        book = (((1, 0), FINE), ((1, 1), FINE), ((0, 1), FINE), (FINE, FINE))
        for stood in (stand, None):
            paper = told_paper(TWO, book, stood, reading, 0)
            case = (TWO, book, stood, reading, 0, (1, 2), paper)
            judged_false(self, told_right, case, (
                STRANGE + NO_GROUNDS + tuple(spoiled(TWO)), STRANGE + (book * 7, book[:3]) + tuple(spoiled(book, ())),
                [thing for thing in STRANGE + (stand[:1],) + tuple(spoiled(stand)) if thing is not None],
                STRANGE + (reading[:1],) + tuple(spoiled(reading)), NO_BATCH_NUMBERS,
                STRANGE + ((1, 2, 0), (1,), (1, 7), (-4, 2), (True, 2)) + tuple(spoiled((1, 2))),
                STRANGE + tuple(spoiled(paper))))

    def test_many_cells(self):
        ground = (65521, 12, (65521, 0, 65520, 1, 2, 3, 4, 5))
        book = tuple(((n, 24 - n),) * 8 for n in range(24))
        batch = tuple(range(12))
        reading = written(ground, (batch,), ((0,) * 1024,) * 8)
        paper = told_paper(ground, book, None, reading, 0)
        same(self, told_right(ground, book, None, reading, 0, batch, paper), True)
        same(self, told_right(ground, book, None, reading, 0, batch[::-1], paper), False)
        same(self, told_right(ground, book, None, reading, 0, batch, paper[1:] + paper[:1]), False)

    def test_by_name(self):
        same(self, told_right(paper=(("is", ((1, 0), (0, 1))),), batch=(1, 2), b=0, reading=(((0, 1), (0, 2)), ()),
                              stand=None, book=NOTHING, ground=TWO), True)


class Example(unittest.TestCase):
    def test_of_the_interface(self):
        runs_as_shown(self, """
>>> from firstsafe.kernel import told_right
>>> ground = (3, 2, (0, 1, 2, 3))
>>> nothing = (((0, 0), (0, 0), (0, 0), (0, 0)),)
>>> reading = (((0, 1),), ((0, 0),), (), ())
>>> told_right(ground, nothing, None, reading, 0, (1, 2), (("is", ((1, 0), (2, 1))),))
True
>>> told_right(ground, nothing, None, reading, 0, (1, 1), (("is", ((1, 0), (2, 1))),))
False
""")


if __name__ == "__main__":
    unittest.main()
