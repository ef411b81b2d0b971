"""Texts of grounds, weavings and readings ([12]), and what the far reader's lines look like as texts ([11])."""

import random
import re
import unittest

from firstsafe.errors import BadGround, BadReading, BadText, BadWeaving
from firstsafe.far import Far
from firstsafe.grounds import is_ground
from firstsafe.readers import read
from firstsafe.tapes import is_reading, is_weaving, weaving_of
from firstsafe.worldtexts import ground_text, read_ground, read_reading, read_weaving, reading_text, weaving_text
from tests.helper import NO_NUMBERS, STRANGE, nested, refuses, runs_as_shown, same, signs_changed

GROUND = (5, 3, (0, 2, 5))
TWO = (41, 3, (0, 41))
NUMBER = "(?:0|[1-9][0-9]{0,4})"
NO_TEXTS = (None, True, 0, 5, (), ("5 3 0",), ["5 3 0"], b"5 3 0", GROUND, nested(19))
BAD_GROUNDS = ((None, -1), ((5, 3), -1), ((4, 3, (0,)), 0), ((5, 13, (0,)), 1), ((5, 3, (0, 6)), 2), ([5, 3, (0,)], -1))


def wanted_ground(text):
    """The ground whose text this is by the words of [12.1], or None."""
    if not re.fullmatch(f"{NUMBER} {NUMBER}(?: (?:far|{NUMBER}))+", text):
        return None
    p, k, *points = text.split(" ")
    if p in points:
        return None
    ground = (int(p), int(k), tuple(int(p) if point == "far" else int(point) for point in points))
    return ground if is_ground(ground) else None


def wanted_tapes(entry, text, made):
    """The tapes whose text this is by the words of [12.2] and [12.3], or None; `entry` is what an entry looks like."""
    tape = f"(?:-|{entry}(?: {entry})*)"
    if not re.fullmatch(f"{tape}(?: [|] {tape})*", text):
        return None
    return tuple(() if part == "-" else tuple(made(word) for word in part.split(" ")) for part in text.split(" | "))


def wanted_weaving(ground, text):
    """The weaving whose text this is, or None."""
    tapes = wanted_tapes(NUMBER, text, int)
    return tapes if is_weaving(ground, tapes) else None


def wanted_reading(ground, text):
    """The reading whose text this is, or None."""
    tapes = wanted_tapes(f"{NUMBER}:{NUMBER}", text, lambda word: tuple(map(int, word.split(":"))))
    return tapes if is_reading(ground, tapes) else None


def reads_or_refuses(case, wanted, call, *arguments):
    """The call returns what is wanted, or refuses if that is None; whether it returned something."""
    if wanted is None:
        refuses(case, BadText, 0, call, *arguments)
        return False
    same(case, call(*arguments), wanted)
    return True


class Grounds(unittest.TestCase):
    def test_texts(self):
        for ground, text in ((GROUND, "5 3 0 2 far"), ((5, 3, (5, 0, 2)), "5 3 far 0 2"), ((2, 1, (0,)), "2 1 0"),
                             ((2, 12, (2,)), "2 12 far"), ((65521, 1, (65521, 65520, 0)), "65521 1 far 65520 0"),
                             ((7, 3, (7, 6, 5, 4, 3, 2, 1, 0)), "7 3 far 6 5 4 3 2 1 0")):
            same(self, ground_text(ground), text)
            same(self, read_ground(text), ground)

    def test_grounds_by_chance_are_read_back(self):
        chance = random.Random(1)
        for _ in range(200):
            p = chance.choice((2, 3, 5, 41, 997, 65521))
            points = tuple(chance.sample(range(p + 1), chance.randint(1, min(8, p + 1))))
            ground = (p, chance.randint(1, 12), points)
            same(self, read_ground(ground_text(ground)), ground)

    def test_one_sign_left_out_doubled_or_exchanged(self):
        said = {True: 0, False: 0}
        for text in ("5 3 0 2 far", "2 1 0", "101 12 far 100 0 10", "65521 2 65520 far"):
            for other in signs_changed(text, "059 |-:far\n\t+"):
                said[reads_or_refuses(self, wanted_ground(other), read_ground, other)] += 1
        self.assertGreater(min(said.values()), 20)

    def test_what_is_no_text_of_a_ground(self):
        for text in ("", " ", "5", "5 3", "5 3 ", " 5 3 0", "5 3 0 ", "5  3 0", "5 3 0\n", "5 3 05", "5 3 00", "05 3 0",
                     "5 03 0", "5 3 5", "5 3 0 5", "5 3 far 5", "5 3 far far", "5 3 0 0", "5 3 6", "4 3 0", "1 3 0", "0 3 0",
                     "5 0 0", "5 13 0", "far 3 0", "5 far 0", "5 3 Far", "5 3 farfar", "5 3 0far", "5 3 -1", "5 3 +1",
                     "5 3 -0", "5 3 1_0", "5 3 0|1", "5 3 0,1", "5 3 \u0663", "\uff15 3 0", "5 3 0 1 2 3 4 far 0 1",
                     "11 3 0 1 2 3 4 5 6 7 8", "65537 3 0", "065521 3 0", "100003 3 0", "65521 3 065520", "5 3 000000",
                     "5 3 -", "- - -", "(5, 3, (0,))", "5 3 (0)", "5\t3\t0", "5 3 \xa0", "5 3 " + "9" * 5000,
                     "9" * 5000 + " 3 0"):
            refuses(self, BadText, 0, read_ground, text)
            self.assertIsNone(wanted_ground(text))
        for thing in NO_TEXTS + STRANGE:
            refuses(self, BadText, 0, read_ground, thing)

    def test_no_text_of_what_is_no_ground(self):
        for ground, what in BAD_GROUNDS:
            refuses(self, BadGround, what, ground_text, ground)


class Weavings(unittest.TestCase):
    def test_texts(self):
        for ground, weaving, text in (
                (GROUND, ((0, 0, 1), (), (1,)), "0 0 1 | - | 1"), (GROUND, ((), (), ()), "- | - | -"),
                ((2, 1, (0,)), ((),), "-"), ((2, 1, (2,)), ((63, 0, 10),), "63 0 10"), (TWO, ((), (7,)), "- | 7"),
                ((7, 1, tuple(range(8))), ((3,),) * 8, "3 | 3 | 3 | 3 | 3 | 3 | 3 | 3")):
            same(self, weaving_text(ground, weaving), text)
            same(self, read_weaving(ground, text), weaving)

    def test_weavings_by_chance_are_read_back(self):
        chance = random.Random(2)
        for _ in range(100):
            weaving = tuple(tuple(chance.randrange(64) for _ in range(chance.choice((0, 1, 2, 30)))) for _ in range(3))
            same(self, read_weaving(GROUND, weaving_text(GROUND, weaving)), weaving)

    def test_one_sign_left_out_doubled_or_exchanged(self):
        said = {True: 0, False: 0}
        for text in ("0 0 1 | - | 1", "63 6 | 10 | -", "- | - | -", "5 | 4 60 | 0"):
            for other in signs_changed(text, "0369 |-:\n"):
                said[reads_or_refuses(self, wanted_weaving(GROUND, other), read_weaving, GROUND, other)] += 1
        self.assertGreater(min(said.values()), 20)

    def test_what_is_no_text_of_a_weaving(self):
        for text in ("", " ", "-", "- | -", "- | - | - | -", "0 | 0", " | | ", " |  | ", "|", " | ", "- | - |", "| - | -",
                     "-|-|-", "- |- | -", "-  | - | -", "- | - | - ", " - | - | -", "- | - | -\n", "- - | - | -",
                     "- 0 | - | -", "0 - | - | -", "-0 | - | -", "64 | - | -", "00 | - | -", "01 | - | -", "000001 | - | -",
                     "0  0 | - | -", "0\n0 | - | -", "-1 | - | -", "+1 | - | -", "0:0 | - | -", "\u0660 | - | -", "- || - | -",
                     "- | | - | -", "- |  | -", "far | - | -", "100000 | - | -", "9" * 5000 + " | - | -"):
            refuses(self, BadText, 0, read_weaving, GROUND, text)
            self.assertIsNone(wanted_weaving(GROUND, text))
        for thing in NO_TEXTS + STRANGE:
            refuses(self, BadText, 0, read_weaving, GROUND, thing)

    def test_1024_and_1025_cells(self):
        longest = ((63,) * 1024, ())
        same(self, read_weaving(TWO, weaving_text(TWO, longest)), longest)
        refuses(self, BadText, 0, read_weaving, TWO, weaving_text(TWO, longest).replace("63 |", "63 63 |"))
        refuses(self, BadText, 0, read_weaving, TWO, "- | " + " ".join(["0"] * 1025))
        refuses(self, BadWeaving, 1, weaving_text, TWO, ((), (0,) * 1025))

    def test_errors_in_order(self):
        for ground, what in BAD_GROUNDS:
            refuses(self, BadGround, what, weaving_text, ground, None)
            refuses(self, BadGround, what, read_weaving, ground, None)
        for weaving, what in ((None, -1), (((),), -1), ([(), ()], -1), (((64,), ()), 0), (((), [0]), 1), (((), "0"), 1)):
            refuses(self, BadWeaving, what, weaving_text, TWO, weaving)


class Readings(unittest.TestCase):
    def test_texts(self):
        for ground, reading, text in (
                ((5, 3, (0, 2)), (((0, 4), (1, 0)), ()), "0:4 1:0 | -"), ((2, 1, (0,)), ((),), "-"),
                ((65521, 1, (0,)), (((63, 65520), (0, 0)),), "63:65520 0:0"), (TWO, ((), ((9, 40),)), "- | 9:40")):
            same(self, reading_text(ground, reading), text)
            same(self, read_reading(ground, text), reading)

    def test_readings_by_chance_are_read_back(self):
        chance = random.Random(3)
        for _ in range(100):
            reading = tuple(tuple((chance.randrange(64), chance.randrange(41)) for _ in range(chance.choice((0, 1, 2, 30))))
                            for _ in range(2))
            same(self, read_reading(TWO, reading_text(TWO, reading)), reading)

    def test_one_sign_left_out_doubled_or_exchanged(self):
        said = {True: 0, False: 0}
        for text in ("0:4 1:0 | -", "63:40 6:1 | 10:0", "- | -", "5:39 | 4:0 60:5"):
            for other in signs_changed(text, "0146 |-:\n"):
                said[reads_or_refuses(self, wanted_reading(TWO, other), read_reading, TWO, other)] += 1
        self.assertGreater(min(said.values()), 20)

    def test_what_is_no_text_of_a_reading(self):
        for text in ("", "-", "- | - | -", "0 | -", "0: | -", ":0 | -", ": | -", "0:0:0 | -", "0::0 | -", "0:0  0:0 | -",
                     "0:0 | - ", " 0:0 | -", "0:0 | -\n", "0 :0 | -", "0: 0 | -", "0:41 | -", "64:0 | -", "00:0 | -",
                     "0:00 | -", "0:01 | -", "0:-1 | -", "-:0 | -", "0:- | -", "- 0:0 | -", "0:0 - | -", "0:0 |-", "0:0| -",
                     "0.0 | -", "0:far | -", "0:000001 | -", "0:100000 | -", "(0, 0) | -", "\u0660:0 | -", "0:0|0:0",
                     "0:" + "9" * 5000 + " | -"):
            refuses(self, BadText, 0, read_reading, TWO, text)
            self.assertIsNone(wanted_reading(TWO, text))
        for thing in NO_TEXTS + STRANGE:
            refuses(self, BadText, 0, read_reading, TWO, thing)

    def test_numbers_are_below_the_prime_of_the_ground(self):
        same(self, read_reading((5, 1, (0,)), "0:4"), (((0, 4),),))
        refuses(self, BadText, 0, read_reading, (5, 1, (0,)), "0:5")
        same(self, read_reading((7, 1, (0,)), "0:5"), (((0, 5),),))

    def test_1024_and_1025_cells(self):
        longest = (((63, 40),) * 1024, ())
        same(self, read_reading(TWO, reading_text(TWO, longest)), longest)
        refuses(self, BadText, 0, read_reading, TWO, "0:0 " + reading_text(TWO, longest))
        refuses(self, BadReading, 0, reading_text, TWO, (((0, 0),) * 1025, ()))

    def test_errors_in_order(self):
        for ground, what in BAD_GROUNDS:
            refuses(self, BadGround, what, reading_text, ground, None)
            refuses(self, BadGround, what, read_reading, ground, None)
        for reading, what in ((None, -1), (((),), -1), ([(), ()], -1), ((((0, 41),), ()), 0), (((), ((0,),)), 1)):
            refuses(self, BadReading, what, reading_text, TWO, reading)

    def test_weavings_and_readings_are_told_apart(self):
        refuses(self, BadText, 0, read_weaving, TWO, "0:4 | -")
        refuses(self, BadText, 0, read_reading, TWO, "0 | -")
        same(self, read_reading(TWO, "- | -"), read_weaving(TWO, "- | -"))


class Far11(unittest.TestCase):
    def test_what_is_heard_can_be_written_and_read_again(self):
        """[11]: the cells of all lines are those of batch 0, and each answer is that of `read`."""
        ground, book = (5, 2, (0, 2, 5)), (((0, 0), (0, 1), (0, 0)), ((0, 1), (0, 0), (0, 0)))
        far, said = Far(ground, book), []
        for shelf, number in ((0, 1), (1, 0), (2, 2), (0, 2), (1, 2), (2, 1)):
            answer = far.hear(shelf, number)
            text = reading_text(ground, tuple(tuple((0, number) for number in line) for line in far.heard()))
            reading = read_reading(ground, text)
            same(self, read(ground, book, None, reading, 0), answer)
            same(self, weaving_text(ground, weaving_of(ground, reading)), text.replace(":0", "").replace(":1", "").replace(
                ":2", ""))
            said.append(answer[0])
        self.assertEqual(said[0], "open")
        self.assertEqual(said[-1], "told")


class Example(unittest.TestCase):
    def test_of_the_interface(self):
        runs_as_shown(self, """
>>> from firstsafe.worldtexts import ground_text, read_reading, weaving_text
>>> ground_text((5, 3, (0, 2, 5)))
'5 3 0 2 far'
>>> weaving_text((5, 3, (0, 2, 5)), ((0, 0, 1), (), (1,)))
'0 0 1 | - | 1'
>>> read_reading((5, 3, (0, 2)), "0:4 1:0 | -")
(((0, 4), (1, 0)), ())
""")

    def test_of_the_points(self):
        same(self, read_ground("5 3 0 2 far"), (5, 3, (0, 2, 5)))
        same(self, read_weaving(GROUND, "0 0 1 | - | 1"), ((0, 0, 1), (), (1,)))

    def test_by_name(self):
        same(self, ground_text(ground=TWO), "41 3 0 far")
        same(self, read_ground(text="41 3 0 far"), TWO)
        same(self, weaving_text(weaving=((), ()), ground=TWO), "- | -")
        same(self, read_weaving(text="- | -", ground=TWO), ((), ()))
        same(self, reading_text(reading=((), ()), ground=TWO), "- | -")
        same(self, read_reading(text="- | -", ground=TWO), ((), ()))
        for number in NO_NUMBERS[:3]:
            refuses(self, BadGround, 1, ground_text, (41, number, (0,)))


if __name__ == "__main__":
    unittest.main()
