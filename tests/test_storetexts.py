"""Texts of groups and states ([20])."""

import random
import re
import unittest

from firstsafe.deeds import is_deed
from firstsafe.errors import BadGroup, BadState, BadText
from firstsafe.figures import is_state
from firstsafe.storetexts import print_group, read_group, read_state, state_text
from tests.helper import STRANGE, refuses, same, signs_changed, some_group, some_state

NAME = "[a-z0-9]{1,6}"
NUMBER = "(?:0|[1-9][0-9]{0,4})"
PAIR = f"{NAME}:(?: {NUMBER})*"
DEED = f"(?:put {PAIR}|drop {NAME}|(?:move|swap) {NAME} {NAME})"
GROUP = re.compile(f"{DEED}(?: & {DEED})*")
STATE = re.compile(f"(?:{PAIR}(?: & {PAIR})*)?")
# Whatever a text may go on with to its end: enough of these lead from each beginning of a text to a whole one.
ENDINGS = ("", "a", ":", "a:", " a", " a a", "a a", " 1", "1", "& drop a", " drop a", "drop a", " & drop a", "a: & drop a",
           "& a:", " a:", " & a:") + tuple(
    word[at:] + " " + rest for word in ("put", "drop", "move", "swap") for at in range(5)
    for rest in ("a", "a:", "a a")) + tuple(" " + rest for rest in ("a", "a:", "a a"))


def goes_on(whole, beginning):
    """True if the beginning of a text is that of some whole one."""
    return any(whole.fullmatch(beginning + ending) for ending in ENDINGS)


def fault_in(whole, text):
    """The first place at which no text could go on as it does, its length if it only ends too early; None for a text."""
    for place in range(len(text)):
        if not goes_on(whole, text[:place + 1]):
            return place
    return None if whole.fullmatch(text) else len(text)


def told_pair(text):
    """The name and the row of a text that has one."""
    name, _, row = text.partition(":")
    return (name, tuple(map(int, row.split())))


def told_deed(text):
    """The deed of a text that has one."""
    word, _, rest = text.partition(" ")
    return (word,) + told_pair(rest) if word == "put" else (word,) + tuple(rest.split(" "))


def check_group(case, p, text):
    """`read_group` says what the words of [20.2] do; which of the three it is."""
    fault = fault_in(GROUP, text)
    if fault is not None:
        refuses(case, BadText, fault, read_group, p, text)
        return "text"
    deeds = tuple(map(told_deed, text.split(" & ")))
    wrong = -1 if len(deeds) > 8 else next((at for at, deed in enumerate(deeds) if not is_deed(p, deed)), None)
    if wrong is not None:
        refuses(case, BadGroup, wrong, read_group, p, text)
        return "group"
    same(case, read_group(p, text), deeds)
    same(case, print_group(deeds), text)
    return "read"


def check_state(case, p, text):
    """`read_state` says what the words of [20.3] do; which of the three it is."""
    fault = fault_in(STATE, text)
    if fault is not None:
        refuses(case, BadText, fault, read_state, p, text)
        return "text"
    state = tuple(map(told_pair, text.split(" & "))) if text else ()
    if not is_state(p, state):
        refuses(case, BadState, 0, read_state, p, text)
        return "state"
    same(case, read_state(p, text), state)
    same(case, state_text(state), text)
    return "read"


def words_changed(text, words):
    """The text with one word left out, doubled, put in or exchanged."""
    parts = text.split(" ")
    for at in range(len(parts)):
        yield " ".join(parts[:at] + parts[at + 1:])
        yield " ".join(parts[:at + 1] + parts[at:])
        for word in words:
            yield " ".join(parts[:at] + [word] + parts[at + 1:])
            yield " ".join(parts[:at] + [word] + parts[at:])
    for word in words:
        yield " ".join(parts + [word])


class Printing(unittest.TestCase):
    def test_groups(self):
        for group, text in (((("put", "a", (5, 0, 12)),), "put a: 5 0 12"), ((("put", "a", ()),), "put a:"),
                            ((("drop", "abc789"),), "drop abc789"), ((("move", "a", "0"),), "move a 0"),
                            ((("swap", "z9", "z9"),), "swap z9 z9"),
                            ((("drop", "a"), ("put", "b", (40,)), ("drop", "a")), "drop a & put b: 40 & drop a")):
            same(self, print_group(group), text)
            same(self, read_group(41, text), group)

    def test_states(self):
        for state, text in (((), ""), ((("a", ()),), "a:"), ((("a", (5,)), ("b", ())), "a: 5 & b:"),
                            ((("put", (0, 40)), ("0", (1,))), "put: 0 40 & 0: 1")):
            same(self, state_text(state), text)
            same(self, read_state(41, text), state)

    def test_by_chance_all_are_read_back(self):
        chance = random.Random(1)
        for _ in range(300):
            p = chance.choice((41, 43, 65521))
            group, state = some_group(chance, p, 8), some_state(chance, p, 8)
            same(self, read_group(p, print_group(group)), group)
            same(self, read_state(p, state_text(state)), state)


class ReadingGroups(unittest.TestCase):
    def test_one_sign_put_in_left_out_or_exchanged(self):
        said = {"text": 0, "read": 0, "group": 0}
        for text in ("put a: 5 0 12", "put b0: & drop c", "move abcdef 0 & swap a a", "drop a & put z9: 40 & drop a", "swap a b"):
            for other in signs_changed(text, "a0159: &pdms-"):
                said[check_group(self, 41, other)] += 1
        self.assertGreater(min(said.values()), 20)

    def test_one_word_put_in_left_out_or_exchanged(self):
        said = {"text": 0, "read": 0, "group": 0}
        for text in ("put a: 5 0 12", "put b0: & drop c", "move abcdef 0 & swap a a", "drop a & put z9: 40 & drop a"):
            for other in words_changed(text, ("put", "drop", "move", "swap", "&", "a", "a:", "0", "41", "40", "")):
                said[check_group(self, 41, other)] += 1
        self.assertGreater(min(said.values()), 8)

    def test_each_beginning(self):
        chance = random.Random(2)
        for _ in range(20):
            text = print_group(some_group(chance, 41, 3))
            for end in range(len(text) + 1):
                check_group(self, 41, text[:end])

    def test_places(self):
        for text, place in (
                ("", 0), (" ", 0), ("drop", 4), ("drop ", 5), ("drop  a", 5), ("drop a b", 7), ("drop a ", 7), ("drop a &", 8),
                ("drop a & ", 9), ("drop a &  drop b", 9), ("drop a & & drop b", 9), ("drop a &drop b", 8), ("drop a& drop b", 6),
                ("drop abcdefg", 11), ("drop abcdef", None), ("drop abcdef g", 12), ("dropa", 4), ("drop: a", 4), ("Drop a", 0),
                ("put a: 05", 8), ("put a: 00", 8), ("put a: 0", None), ("put a:5", 6), ("put a", 5), ("put a 5", 5), ("put a :", 5),
                ("put a:: 5", 6), ("put abcdefg:", 10), ("put a: ", 7), ("put a:  5", 7), ("put a: 5 ", 9), ("put a: 5  6", 9),
                ("put a: 123456", 12), ("put a: -1", 7), ("put a: +1", 7), ("put a: b", 7), ("put a: &", 8), ("put a: & ", 9),
                ("put a: & b", 9), ("put a: 5&", 8), ("put a: 5 &", 10), ("put : 5", 4), ("put :", 4), ("move a", 6), ("move a ", 7),
                ("move a  b", 7), ("move a b c", 9), ("move a:", 6), ("move a &", 7), ("swap a b:", 8), ("pot a:", 1), ("p", 1),
                ("take a", 0), ("drop \u00e4", 5), ("drop a\n", 6), ("drop \u0663", 5), ("put a: \u0663", 7), ("drop A", 5),
                ("nothing", 0), ("& drop a", 0), ("move abcdefg b", 11), ("dropp a", 4), ("mo", 2), ("sw p", 2)):
            if place is None:
                self.assertEqual(check_group(self, 41, text), "read")
            else:
                refuses(self, BadText, place, read_group, 41, text)
                self.assertEqual(fault_in(GROUP, text), place)

    def test_any_number_of_deeds_and_rows_of_any_length_are_read_before_they_are_refused(self):
        nine = " & ".join(["drop a"] * 9)
        refuses(self, BadGroup, -1, read_group, 41, nine)
        refuses(self, BadText, len(nine), read_group, 41, nine + "&")
        refuses(self, BadText, 0, read_group, 41, "x" + nine)
        same(self, read_group(41, " & ".join(["drop a"] * 8)), (("drop", "a"),) * 8)
        long = "put a:" + " 0" * 41
        refuses(self, BadGroup, 0, read_group, 41, long)
        refuses(self, BadGroup, 1, read_group, 41, "drop a & " + long)
        refuses(self, BadText, len(long), read_group, 41, long + "0")
        same(self, read_group(41, "put a:" + " 0" * 40), (("put", "a", (0,) * 40),))
        refuses(self, BadGroup, -1, read_group, 41, " & ".join(["put a:" + " 7" * 1000] * 100))

    def test_numbers_of_p_and_more(self):
        refuses(self, BadGroup, 0, read_group, 41, "put a: 41")
        refuses(self, BadGroup, 1, read_group, 41, "put a: 40 & put a: 99999")
        same(self, read_group(43, "put a: 41 42"), (("put", "a", (41, 42)),))
        refuses(self, BadText, 12, read_group, 41, "put a: 41 & x")

    def test_what_is_no_text(self):
        for thing in STRANGE + (b"drop a", ["drop a"], ("drop", "a")):
            if not isinstance(thing, str):
                refuses(self, BadText, -1, read_group, 41, thing)
                refuses(self, BadText, -1, read_state, 41, thing)


class ReadingStates(unittest.TestCase):
    def test_one_sign_put_in_left_out_or_exchanged(self):
        said = {"text": 0, "read": 0, "state": 0}
        for text in ("a: 5 0 12", "b0: & c:", "abcdef: 0 & b: 1", "a: & z9: 40 & 0: 5", ""):
            for other in signs_changed(text, "a0159: &z-"):
                said[check_state(self, 41, other)] += 1
        self.assertGreater(min(said.values()), 20)

    def test_one_word_put_in_left_out_or_exchanged(self):
        said = {"text": 0, "read": 0, "state": 0}
        for text in ("a: 5 0 12", "b0: & c:", "abcdef: 0 & b: 1", "a: & z9: 40 & 0: 5"):
            for other in words_changed(text, ("put", "drop", "&", "a", "a:", "9:", "0", "41", "40", "")):
                said[check_state(self, 41, other)] += 1
        self.assertGreater(min(said.values()), 20)

    def test_each_beginning(self):
        chance = random.Random(3)
        for _ in range(20):
            text = state_text(some_state(chance, 41, 4))
            for end in range(len(text) + 1):
                check_state(self, 41, text[:end])

    def test_places(self):
        for text, place in ((" ", 0), ("a", 1), ("a ", 1), (":", 0), ("a: ", 3), ("a:5", 2), ("a:  5", 3), ("a: 05", 4), ("a: 5 ", 5),
                            ("a: 5 &", 6), ("a: 5 & ", 7), ("a: 5 & &", 7), ("a: 5 & b", 8), ("a: & b:", None), ("a:& b:", 2),
                            ("& a:", 0), ("abcdefg:", 6), ("abcdef:", None), ("a: 123456", 8), ("put a:", 3), ("A:", 0), ("-", 0),
                            ("a: -", 3), ("a: 5 & b: 5\n", 11), ("a:\u0663", 2)):
            if place is None:
                self.assertEqual(check_state(self, 41, text), "read")
            else:
                refuses(self, BadText, place, read_state, 41, text)
                self.assertEqual(fault_in(STATE, text), place)

    def test_pairs_that_are_no_state(self):
        for text in ("b: & a:", "a: & a:", "a: 1 & a: 1", "0: & z:", "ba: & b:", "a: & c: & b:", "a: 41", "a: 40 & b: 99999",
                     "a:" + " 0" * 41):
            refuses(self, BadState, 0, read_state, 41, text)
            refuses(self, BadText, len(text), read_state, 41, text + ":")
        same(self, read_state(41, "a:" + " 0" * 40), (("a", (0,) * 40),))
        same(self, read_state(43, "a: 41"), (("a", (41,)),))
        same(self, read_state(41, ""), ())


class Example(unittest.TestCase):
    def test_20_4(self):
        same(self, print_group((("put", "a", (5, 0)), ("move", "a", "b"))), "put a: 5 0 & move a b")
        refuses(self, BadText, 8, read_group, 41, "put a: 05")
        refuses(self, BadText, 4, read_group, 41, "drop")
        refuses(self, BadText, 7, read_group, 41, "drop a b")
        refuses(self, BadGroup, 0, read_group, 41, "put a: 41")
        same(self, state_text((("a", (5,)), ("b", ()))), "a: 5 & b:")

    def test_by_name(self):
        same(self, print_group(group=(("drop", "c"),)), "drop c")
        same(self, read_group(text="drop c", p=41), (("drop", "c"),))
        same(self, state_text(state=()), "")
        same(self, read_state(text="", p=41), ())


if __name__ == "__main__":
    unittest.main()
