"""Reading books from their texts ([5] to [5.3], [5.5])."""

import random
import unittest
from itertools import combinations, product

from firstsafe.bookwords import read_book
from firstsafe.errors import BadNames, BadNumber, BadText, NoName, TooMany, Twice
from tests.helper import NO_NUMBERS, STRANGE, nested, refuses, runs_as_shown, same

AB = ("a", "b")
ABC = ("a", "b", "c")
EIGHT = ("a", "b", "c", "d", "e", "f", "g", "h")
FINE = (0, 0)
OWN_WORDS = ("nothing", "and", "lose", "cut", "tear", "turn", "any", "of")


def unlike(rows):
    """Each row once, at its first place."""
    return list(dict.fromkeys(rows))


def greatest(bounds):
    """The greatest bound, None being above all numbers; 0 if there is none."""
    return None if None in bounds else max(bounds, default=0)


def rows_of_parts(many, parts):
    """The rows of a clause as [5.2] tells: one for each combination of one choice for each part, then each once.

    A part is a pair of a fate and the list of its choices.
    """
    rows = []
    for choice in product(*[choices for _, choices in parts]):
        given = [[fate for (fate, _), shelves in zip(parts, choice) if shelf in shelves] for shelf in range(many)]
        rows.append(tuple((greatest([u for u, _ in fates]), greatest([v for _, v in fates])) for fates in given))
    return unlike(rows)


class Names(unittest.TestCase):
    def test_names_of_all_forms(self):
        for name in ("a", "z", "a0", "z9", "abcdefghijkl", "a12345678901", "nothings", "an", "o", "loses", "any1"):
            same(self, read_book((name,), "lose " + name), (((None, 0),),))
        same(self, read_book(EIGHT, "lose h"), ((FINE,) * 7 + ((None, 0),),))

    def test_no_tuple_of_1_to_8(self):
        for names in ((), EIGHT + ("i",), ["a", "b"], "ab", None, True, 0, {}, ("a",) * 9, (None,) * 9):
            refuses(self, BadNames, -1, read_book, names, "lose a")

    def test_the_first_bad_name(self):
        for name in OWN_WORDS + ("", "A", "1a", "0", "a b", "a-", "a_b", "aB", "abcdefghijklm", "a1234567890123", " a",
                                 "a ", "\u00e4", "a\u0663", "a\n") + NO_NUMBERS[:1] + (None, 1, ("a",), nested(18), ["a"]):
            refuses(self, BadNames, 0, read_book, (name,), "nothing")
            refuses(self, BadNames, 1, read_book, ("a", name), "nothing")
            refuses(self, BadNames, 1, read_book, ("a", name, "a", None), "nothing")
            refuses(self, BadNames, 7, read_book, EIGHT[:7] + (name,), "nothing")

    def test_equal_names(self):
        refuses(self, BadNames, 1, read_book, ("a", "a"), "nothing")
        refuses(self, BadNames, 3, read_book, ("a", "b", "c", "b", "a", "9"), "nothing")
        refuses(self, BadNames, 2, read_book, ("a", "b", "9", "b"), "nothing")
        refuses(self, BadNames, 2, read_book, ("a", "b", "b", "9"), "nothing")

    def test_names_come_before_the_text(self):
        refuses(self, BadNames, 0, read_book, ("A",), None)
        refuses(self, BadNames, -1, read_book, None, "!")


class Meaning(unittest.TestCase):
    def test_each_kind_of_part(self):
        same(self, read_book(AB, "lose a"), (((None, 0), FINE),))
        same(self, read_book(AB, "turn a"), (((0, None), FINE),))
        same(self, read_book(AB, "cut 7 b"), ((FINE, (7, 0)),))
        same(self, read_book(AB, "tear 64 b"), ((FINE, (0, 64)),))
        same(self, read_book(AB, "nothing"), ((FINE, FINE),))
        same(self, read_book(AB, "cut 0 a and tear 0 b"), ((FINE, FINE),))
        same(self, read_book(AB, "cut 64 a b"), (((64, 0), (64, 0)),))

    def test_names_are_one_choice(self):
        same(self, read_book(ABC, "lose c a"), (((None, 0), FINE, (None, 0)),))
        same(self, read_book(ABC, "lose a b c"), (((None, 0),) * 3,))

    def test_any(self):
        x = (None, 0)
        same(self, read_book(ABC, "lose any 1"), ((x, FINE, FINE), (FINE, x, FINE), (FINE, FINE, x)))
        same(self, read_book(ABC, "lose any 2"), ((x, x, FINE), (x, FINE, x), (FINE, x, x)))
        same(self, read_book(ABC, "lose any 3"), ((x, x, x),))
        same(self, read_book(ABC, "lose any 1 of c b"), ((FINE, x, FINE), (FINE, FINE, x)))
        same(self, read_book(ABC, "lose any 2 of c a b"), ((x, x, FINE), (x, FINE, x), (FINE, x, x)))
        same(self, read_book(ABC, "lose any 2 of c a"), ((x, FINE, x),))
        same(self, read_book(ABC, "lose any 1 of b"), ((FINE, x, FINE),))

    def test_the_first_part_changes_most_slowly(self):
        same(self, read_book(AB, "cut 1 any 1 and tear 2 any 1"),
             (((1, 2), FINE), ((1, 0), (0, 2)), ((0, 2), (1, 0)), (FINE, (1, 2))))
        same(self, read_book(AB, "tear 2 any 1 and cut 1 any 1"),
             (((1, 2), FINE), ((0, 2), (1, 0)), ((1, 0), (0, 2)), (FINE, (1, 2))))

    def test_the_greatest_counts(self):
        same(self, read_book(AB, "cut 3 a and cut 5 a and cut 4 a"), (((5, 0), FINE),))
        same(self, read_book(AB, "cut 3 a and lose a and cut 4 a"), (((None, 0), FINE),))
        same(self, read_book(AB, "turn a and tear 9 a b and tear 8 b"), (((0, None), (0, 9)),))
        same(self, read_book(AB, "lose a and turn a"), (((None, None), FINE),))

    def test_equal_rows_count_once_at_their_first_place(self):
        same(self, read_book(AB, "cut 1 any 1 and cut 1 any 1"), (((1, 0), FINE), ((1, 0), (1, 0)), (FINE, (1, 0))))
        same(self, read_book(AB, "cut 0 any 1"), ((FINE, FINE),))
        same(self, read_book(AB, "lose a; nothing; lose any 1; nothing; lose a"),
             (((None, 0), FINE), (FINE, FINE), (FINE, (None, 0))))

    def test_by_chance(self):
        chance = random.Random(5)
        tried = {True: 0, False: 0}
        for _ in range(800):
            names = ("a", "b1", "cc", "d", "e5e", "f")[:chance.randint(1, 6)]
            text, clauses = self.some_text(chance, names)
            wanted = self.wanted(len(names), clauses)
            tried[isinstance(wanted, int)] += 1
            if isinstance(wanted, int):
                refuses(self, TooMany, wanted, read_book, names, text)
            else:
                same(self, read_book(names, text), wanted)
        self.assertGreater(min(tried.values()), 50)

    def some_text(self, chance, names):
        """A text, and for each of its clauses (place, parts) with a (place, fate, choices) for each part."""
        text = " " * chance.randint(0, 2)
        clauses = []
        for index in range(chance.randint(1, 4)):
            if index:
                text += chance.choice((";", " ;", "; ", "  ;  "))
            clause = (len(text), [])
            clauses.append(clause)
            if chance.random() < 0.2:
                text += "nothing"
                continue
            for more in range(chance.randint(1, 3)):
                if more:
                    text += chance.choice((" and ", "  and   "))
                place = len(text)
                words, fate, choices = self.some_part(chance, names)
                text += chance.choice((" ", "  ")).join(words)
                clause[1].append((place, fate, choices))
        return text + " " * chance.randint(0, 2), clauses

    def some_part(self, chance, names):
        """The words of a part, its fate and its choices."""
        many = chance.choice((0, 1, 2, 10, 64))
        words, fate = chance.choice(((["lose"], (None, 0)), (["turn"], (0, None)), (["cut", str(many)], (many, 0)),
                                     (["tear", str(many)], (0, many))))
        among = chance.sample(range(len(names)), chance.randint(1, len(names)))
        kind = chance.randrange(3)
        if kind == 0:
            return words + [names[shelf] for shelf in among], fate, [tuple(among)]
        if kind == 1:
            n = chance.randint(1, len(among))
            words = words + ["any", str(n), "of"] + [names[shelf] for shelf in among]
            return words, fate, list(combinations(sorted(among), n))
        n = chance.randint(1, len(names))
        return words + ["any", str(n)], fate, list(combinations(range(len(names)), n))

    def wanted(self, many, clauses):
        """The rows, or the place that TooMany tells."""
        rows = []
        for place, parts in clauses:
            found = [(FINE,) * many]
            for upto in range(1, len(parts) + 1):
                found = rows_of_parts(many, [part[1:] for part in parts[:upto]])
                if len(found) > 24:
                    return parts[upto - 1][0]
            rows = unlike(rows + found)
            if len(rows) > 24:
                return place
        return tuple(rows)


class Blanks(unittest.TestCase):
    def test_anywhere_between_words(self):
        wanted = (((2, 0), FINE), (FINE, (2, 0)), (FINE, FINE))
        for text in ("cut 2 any 1 of a b;nothing", "cut 2 any 1 of a b ;nothing", "cut 2 any 1 of a b; nothing",
                     "   cut   2 any    1 of  a   b   ;    nothing     ", "cut 2 any 1 of a b;nothing ",
                     " cut 2 any 1 of a b;nothing", "cut 2 any 1 of b a;nothing;nothing"):
            same(self, read_book(AB, text), wanted)

    def test_needed_between_words(self):
        refuses(self, BadText, 0, read_book, AB, "cut2 a")
        refuses(self, BadText, 0, read_book, AB, "losea")
        refuses(self, BadText, 4, read_book, AB, "cut 2a")
        refuses(self, BadText, 9, read_book, AB, "lose any 1of a")
        refuses(self, NoName, 5, read_book, AB, "lose any1")
        refuses(self, NoName, 5, read_book, AB, "lose aand b")


class Texts(unittest.TestCase):
    def test_no_text(self):
        for thing in STRANGE:
            if not isinstance(thing, str):
                refuses(self, BadText, -1, read_book, AB, thing)

    def test_too_long(self):
        same(self, read_book(AB, "nothing" + " " * 19993), ((FINE, FINE),))
        refuses(self, BadText, 20000, read_book, AB, "nothing" + " " * 19994)
        refuses(self, BadText, 20000, read_book, AB, "!" * 20001)
        refuses(self, BadText, 0, read_book, AB, "!" * 20000)
        refuses(self, BadText, 20000, read_book, AB, "nothing" + " " * 19993 + "\n")
        refuses(self, BadText, 19999, read_book, AB, "nothing" + " " * 19992 + "\n" + " " * 100)
        refuses(self, BadText, 20000, read_book, AB, " " * 100000)
        refuses(self, BadText, 20000, read_book, AB, " " * 20000)
        same(self, read_book(AB, ";".join(["nothing"] * 2500)), ((FINE, FINE),))

    def test_signs_that_no_text_has(self):
        for sign in ("\n", "\t", "\r", "\x00", "\x1f", "\x7f", "%", "\u00e9", "\u00a0", "\u2003", "\U0001f600", "\ud800"):
            for place in (0, 5, 7):
                refuses(self, BadText, place, read_book, AB, "! A zz !"[:place] + sign + "\n%")
            refuses(self, BadText, 6, read_book, AB, "lose a" + sign)
            refuses(self, BadText, 7, read_book, AB, "lose c " + sign)

    def test_signs_that_a_text_may_have(self):
        for code in range(32, 127):
            if code != 37:
                refuses(self, NoName, 5, read_book, AB, "lose c " + chr(code))

    def test_signs_that_may_not_stand_there(self):
        for code in range(32, 127):
            sign = chr(code)
            if code == 37:
                continue
            if sign not in " ;" and not (sign.islower() or sign.isdigit()):
                refuses(self, BadText, 0, read_book, AB, sign + "lose a")
                refuses(self, BadText, 5, read_book, AB, "lose " + sign)
                refuses(self, BadText, 6, read_book, AB, "lose a" + sign + " b")
                refuses(self, BadText, 7, read_book, AB, "lose a " + sign)
                refuses(self, BadText, 4, read_book, AB, "cut " + sign)


class Places(unittest.TestCase):
    """The first fault, read from left to right, at its place."""

    def check(self, names, rows):
        for text, error, place in rows:
            with self.subTest(text=text):
                refuses(self, error, place, read_book, names, text)

    def test_of_5_5(self):
        self.check(AB, (
            ("lose c", NoName, 5), ("lose a a", Twice, 7), ("cut 65 a", BadNumber, 4), ("lose any 3", BadNumber, 9),
            ("lose any 2 of a", BadNumber, 9), ("cut 01 a", BadText, 4), ("lose", BadText, 4),
            ("nothing and lose a", BadText, 8), ("", BadText, 0), ("lose A", BadText, 5)))

    def test_texts_that_end_too_early(self):
        self.check(AB, (
            ("   ", BadText, 3), ("lose ", BadText, 5), ("turn", BadText, 4), ("cut", BadText, 3), ("cut  ", BadText, 5),
            ("cut 3", BadText, 5), ("tear 3 ", BadText, 7), ("lose any", BadText, 8), ("lose any ", BadText, 9),
            ("lose any 1 of", BadText, 13), ("lose any 1 of  ", BadText, 15), ("lose a and", BadText, 10),
            ("lose a;", BadText, 7), ("lose a; ", BadText, 8), ("nothing;", BadText, 8)))

    def test_clauses(self):
        self.check(AB, (
            (";", BadText, 0), ("; nothing", BadText, 0), ("nothing;;nothing", BadText, 8), ("nothing nothing", BadText, 8),
            ("nothing a", BadText, 8), ("nothing lose a", BadText, 8), ("lose a and nothing", BadText, 11),
            ("lose a and and lose b", BadText, 11), ("and lose a", BadText, 0), ("a", BadText, 0), ("7", BadText, 0),
            ("any 1", BadText, 0), ("of", BadText, 0), ("lose a lose b", BadText, 7), ("lose a nothing", BadText, 7),
            ("lose a of b", BadText, 7), ("lose a any 1", BadText, 7), ("lose a 7", BadText, 7), ("lose a; and", BadText, 8),
            ("loose a", BadText, 0), ("lose2 a", BadText, 0), ("nothing1", BadText, 0), ("nothings", BadText, 0)))

    def test_numbers_of_cut_and_tear(self):
        for word in ("cut", "tear"):
            at = len(word) + 1
            self.check(AB, (
                (word + " 00 a", BadText, at), (word + " 007 a", BadText, at), (word + " 01", BadText, at),
                (word + " a", BadText, at), (word + " any 1", BadText, at), (word + " 1a b", BadText, at),
                (word + " ;", BadText, at), (word + " 1000000", BadNumber, at), (word + " 65", BadNumber, at),
                (word + " " + "9" * 15000, BadNumber, at), (word + " 0" + "9" * 15000, BadText, at),
                (word + " -1 a", BadText, at), (word + " 65 !", BadNumber, at), (word + " 64 !", BadText, at + 3)))
            for n in range(65):
                read_book(AB, f"{word} {n} a")
            for n in range(65, 120):
                refuses(self, BadNumber, at, read_book, AB, f"{word} {n} a")

    def test_numbers_of_any(self):
        self.check(AB, (
            ("lose any 0", BadNumber, 9), ("lose any 0 of a", BadNumber, 9), ("lose any 3 of a b", BadNumber, 9),
            ("lose any 00", BadText, 9), ("lose any 01", BadText, 9), ("lose any 100", BadNumber, 9),
            ("lose any " + "1" * 9000, BadNumber, 9), ("lose any of a", BadText, 9), ("lose any a", BadText, 9),
            ("lose any ;", BadText, 9), ("lose any any", BadText, 9), ("lose any 3 of zz", BadNumber, 9),
            ("cut 3 any 9", BadNumber, 10), ("lose any 1 a", BadText, 11), ("lose any 1 any 1", BadText, 11),
            ("lose any 1 !", BadText, 11), ("lose any 1 1", BadText, 11)))
        for n in range(1, 9):
            self.assertTrue(read_book(EIGHT, f"cut 0 any {n}"))
        for n in (0, 9, 10, 64, 99):
            refuses(self, BadNumber, 10, read_book, EIGHT, f"cut 0 any {n}")

    def test_more_than_the_names_of_any(self):
        self.check(ABC, (
            ("lose any 2 of a", BadNumber, 9), ("lose any 3 of a b", BadNumber, 9), ("lose any 2 of a!", BadNumber, 9),
            ("lose any 2 of a and", BadNumber, 9), ("lose any 2 of a;", BadNumber, 9), ("lose any 2 of a 7", BadNumber, 9),
            ("lose any 2 of a zz", NoName, 16), ("lose any 2 of a a", Twice, 16), ("lose any 2 of", BadText, 13),
            ("lose any 2 of a abcdefghijklm", BadNumber, 9), ("nothing; cut 1 any 2 of c and", BadNumber, 19)))

    def test_names_in_lists(self):
        self.check(ABC, (
            ("lose and", BadText, 5), ("lose nothing", BadText, 5), ("lose of", BadText, 5), ("lose lose", BadText, 5),
            ("lose cut", BadText, 5), ("lose tear", BadText, 5), ("lose turn a", BadText, 5), ("lose 1", BadText, 5),
            ("lose 1a", BadText, 5), ("lose ;", BadText, 5), ("lose any 1 of and", BadText, 14),
            ("lose any 1 of any", BadText, 14), ("lose any 1 of 1", BadText, 14), ("lose any 1 of ; a", BadText, 14),
            ("lose a zz", NoName, 7), ("lose zz a", NoName, 5), ("lose a b a", Twice, 9), ("lose a a zz", Twice, 7),
            ("lose a zz zz", NoName, 7), ("cut 1 c and tear 2 b b", Twice, 21), ("lose any 1 of a b a", Twice, 18),
            ("lose any 1 of d", NoName, 14), ("lose a; turn d", NoName, 13), ("lose a b 1", BadText, 9),
            ("lose a1", NoName, 5), ("lose a b c A", BadText, 11), ("lose aA", BadText, 6)))
        same(self, read_book(ABC, "lose a and lose a"), (((None, 0), FINE, FINE),))

    def test_names_of_12_and_13_signs(self):
        long = "abcdefghijkl"
        same(self, read_book((long,), "lose " + long), (((None, 0),),))
        self.check(AB, (
            ("lose " + long, NoName, 5), ("lose " + long + "m", BadText, 5), ("lose a " + long, NoName, 7),
            ("lose a " + long + "m", BadText, 7), ("lose any 1 of " + long + "m", BadText, 14),
            ("lose any 1 of " + long, NoName, 14), ("cut 1 acut 1 a", NoName, 6), ("lose " + "a" * 15000, BadText, 5)))

    def test_the_first_fault_counts(self):
        self.check(AB, (
            ("lose c d !", NoName, 5), ("cut 99 c", BadNumber, 4), ("lose a a; !", Twice, 7), ("! lose c", BadText, 0),
            ("lose c; lose A", NoName, 5), ("nothing nothing !", BadText, 8), ("lose any 0 of c", BadNumber, 9)))


class ManyRows(unittest.TestCase):
    """TooMany behind a PART and behind a CLAUSE."""

    def test_24_rows_behind_a_part(self):
        text = "cut 1 any 1 of a b c and cut 2 any 1 of d e f g h"
        self.assertEqual(len(read_book(EIGHT, text)), 15)
        text = "cut 1 any 1 of a b c and cut 2 any 1"
        # 3 times 8 combinations; none of their rows are equal.
        self.assertEqual(len(read_book(EIGHT, text)), 24)

    def test_more_than_24_rows_behind_a_part(self):
        names = EIGHT[:5]
        text = "cut 1 any 1 and cut 2 any 1"
        # 5 times 5 combinations, all of unlike rows.
        refuses(self, TooMany, 16, read_book, names, text)
        refuses(self, TooMany, 16, read_book, names, text + "!")
        refuses(self, TooMany, 16, read_book, names, text + " and lose a b c d e")
        refuses(self, TooMany, 26, read_book, names, "nothing ; " + text)
        refuses(self, TooMany, 17, read_book, names, " " + text + " of a b c d e 7")
        refuses(self, NoName, 37, read_book, names, text + " of a b c zz")
        refuses(self, TooMany, 0, read_book, EIGHT, "lose any 4")
        refuses(self, TooMany, 0, read_book, EIGHT, "lose any 3 and")
        refuses(self, TooMany, 3, read_book, EIGHT, "   turn any 5 nothing")
        refuses(self, TooMany, 15, read_book, EIGHT, "cut 1 a b and  lose any 2")

    def test_more_than_24_combinations_of_few_rows(self):
        same(self, read_book(EIGHT, "cut 0 any 4"), ((FINE,) * 8,))
        same(self, read_book(EIGHT, "lose any 8 and cut 3 any 4 and cut 4 any 4"), (((None, 0),) * 8,))
        same(self, read_book(EIGHT, "lose any 8 and turn any 8 and cut 1 any 4"), (((None, None),) * 8,))
        self.assertEqual(len(read_book(EIGHT, "cut 1 any 1 and cut 0 any 4 and cut 0 any 4")), 8)

    def test_too_many_behind_an_early_part_even_if_later_parts_make_them_equal(self):
        refuses(self, TooMany, 0, read_book, EIGHT, "cut 1 any 4 and lose any 8")

    def test_24_rows_behind_a_clause(self):
        clauses = [f"cut {n} a" for n in range(1, 25)]
        wanted = tuple(((n, 0), FINE) for n in range(1, 25))
        same(self, read_book(AB, "; ".join(clauses)), wanted)
        same(self, read_book(AB, "; ".join(clauses + clauses)), wanted)
        text = "; ".join(clauses)
        refuses(self, TooMany, len(text) + 2, read_book, AB, text + "; nothing")
        refuses(self, TooMany, len(text) + 2, read_book, AB, text + "; nothing lose")
        refuses(self, TooMany, len(text) + 2, read_book, AB, text + "; nothing!")
        refuses(self, TooMany, len(text) + 1, read_book, AB, text + ";cut 25 a;")
        refuses(self, TooMany, len(text) + 4, read_book, AB, text + ";   cut 25 a 7")
        refuses(self, BadText, len(text) + 10, read_book, AB, text + "; cut 1 a 7")
        refuses(self, NoName, len(text) + 8, read_book, AB, text + "; cut 1 c")
        refuses(self, BadText, len(text) + 2, read_book, AB, text + "; ")

    def test_the_clause_begins_at_its_first_word(self):
        text = "; ".join(f"cut {n} a" for n in range(1, 24))
        # One row more is too many, and the clause has two new ones.
        refuses(self, TooMany, len(text) + 2, read_book, AB, text + "; lose a and tear 1 any 1")
        refuses(self, BadText, len(text) + 12, read_book, AB, text + "; lose a and")
        same(self, len(read_book(AB, text + "; lose a and tear 1 a")), 24)

    def test_both_at_once(self):
        text = "; ".join(f"cut {n} a" for n in range(1, 25))
        refuses(self, TooMany, len(text) + 14, read_book, EIGHT, text + "; cut 1 a and lose any 4")
        refuses(self, TooMany, len(text) + 2, read_book, EIGHT, text + "; lose any 4")


class Example(unittest.TestCase):
    def test_5_5(self):
        runs_as_shown(self, """
>>> from firstsafe.bookprint import print_book
>>> from firstsafe.bookwords import read_book
>>> read_book(("a", "b", "c"), "cut 2 any 2 of a b c and tear 1 c; nothing")
(((2, 0), (2, 0), (0, 1)), ((2, 0), (0, 0), (2, 1)), ((0, 0), (2, 0), (2, 1)), ((0, 0), (0, 0), (0, 0)))
>>> read_book(("a", "b"), "lose any 1")
(((None, 0), (0, 0)), ((0, 0), (None, 0)))
>>> print_book(("a", "b"), (((None, 0), (0, 0)), ((0, 3), (2, None)), ((0, 0), (0, 0))))
'lose a; tear 3 a and cut 2 b and turn b; nothing'
""")

    def test_by_name(self):
        same(self, read_book(text="lose a", names=("a",)), (((None, 0),),))


if __name__ == "__main__":
    unittest.main()
