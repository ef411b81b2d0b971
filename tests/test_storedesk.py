"""The desk ([21])."""

import random
import unittest

from firstsafe.bookwords import read_book
from firstsafe.errors import BadPoints, Refused
from firstsafe.moves import Move
from firstsafe.opening import lay, look, opened
from firstsafe.shelves import Shelves
from firstsafe.storedesk import StoreDesk
from firstsafe.storetexts import print_group, read_group, state_text
from firstsafe.worldtexts import read_ground
from tests.helper import STRANGE, refuses, same, signs_changed, some_group

BOOK = "nothing; lose any 1"
CHARTER = "41 3 0 1 2 / a b c / " + BOOK
BAD = "refused: BadText 0"
LEFT = "refused: Left 0"
# One row of each form; what a row needs: a Move, a Store, either or neither.
ROWS = (("lay " + CHARTER, "neither"), ("put a: 5", "store"), ("drop a", "store"), ("move a b", "store"), ("swap a b", "store"),
        ("flush", "store"), ("write 0", "either"), ("lost 0", "either"), ("sure", "store"), ("state", "store"), ("get a", "store"),
        ("shift " + CHARTER, "either"), ("fall 0 0: 0:1", "neither"), ("lose 0", "neither"), ("stop", "neither"),
        ("look", "neither"), ("open " + CHARTER, "neither"), ("answer", "move"), ("strike", "store"))


def told(case, desk, rows):
    """Carries out the rows and compares the answers."""
    for row, answer in rows:
        same(case, (row, desk.row(row)), (row, answer))


def written(desk, points=(0, 1, 2)):
    """Lets the shelves write until none of them writes any more."""
    while any([desk.row("write " + str(point)) != "-" for point in points]):
        pass


def stored(points=(0, 1, 2), charter=CHARTER):
    """A desk with a Store of the empty state."""
    desk = StoreDesk(points)
    desk.row("lay " + charter)
    written(desk)
    desk.row("answer")
    return desk


def moving(points=(0, 1, 2)):
    """A desk with a Move that is not whole."""
    desk = StoreDesk(points)
    desk.row("lay " + CHARTER)
    return desk


class Example(unittest.TestCase):
    def test_21_4(self):
        told(self, StoreDesk((0, 1, 2)), (
            ("lay 41 3 0 1 2 / a b c / nothing; lose any 1", "ok"), ("write 0", "0 1"), ("write 1", "0 1"),
            ("answer", "refused: NotWhole 0"), ("write 2", "0 1"), ("write 0", "0 0"), ("write 1", "0 0"), ("write 2", "-"),
            ("answer", "ok"), ("drop a", "refused: NoName 0 a"), ("put a: 5", "ok 0"), ("state", "a: 5"), ("sure", "0"),
            ("look", "0 0 -"), ("stop", "ok"), ("state", "refused: Left 0")))


class Points(unittest.TestCase):
    def test_errors_of_the_device(self):
        refuses(self, BadPoints, -1, StoreDesk, ())
        refuses(self, BadPoints, -1, StoreDesk, [0])
        refuses(self, BadPoints, 1, StoreDesk, (0, 0))
        refuses(self, BadPoints, 0, StoreDesk, (65522,))


class Each(unittest.TestCase):
    def test_groups(self):
        desk = stored()
        told(self, desk, (
            ("put a: 5 0 12", "ok 0"), ("put b: & move a c & swap b c", "ok 1"), ("state", "b: 5 0 12 & c:"), ("drop b", "ok 2"),
            ("move c 0", "ok 3"), ("swap 0 0", "ok 4"), ("state", "0:"), ("move 0 0", "refused: There 0 0"),
            ("put a: & drop y", "refused: NoName 1 y"), ("put a: 41", "refused: BadGroup 0"),
            ("drop 0 & put a: 5 & put b: 99999", "refused: BadGroup 2"), (" & ".join(["drop a"] * 9), "refused: BadGroup -1"),
            ("drop", BAD), ("drop ", "refused: BadText 5"), ("drop a b", "refused: BadText 7"), ("put a: 05", "refused: BadText 8"),
            ("put a", "refused: BadText 5"), ("drop  a", "refused: BadText 5"), ("drop a ", "refused: BadText 7"),
            ("swap 0 z", "refused: NoName 0 z"), ("put a:" + " 7" * 39, "refused: TooGreat 45"), ("state", "0:")))

    def test_full(self):
        desk = stored()
        for number in range(12):
            same(self, desk.row("put a:"), "ok " + str(number))
        told(self, desk, (("drop a", "refused: Full 1"), ("state", "a:"), ("put b:", "refused: Full 2")))

    def test_flush_sure_and_state(self):
        desk = stored((0, 1, 2), "41 12 0 1 2 / a b c / " + BOOK)
        told(self, desk, (("state", "-"), ("sure", "0"), ("flush", "ok"), ("put a: 1", "ok 0"), ("write 0", "-"), ("flush", "ok"),
                          ("write 0", "1 2"), ("write 0", "1 6"), ("sure", "0")))
        written(desk)
        told(self, desk, (("sure", "1"), ("put b:", "ok 1"), ("sure", "1"), ("state", "a: 1 & b:")))

    def test_write_and_lost(self):
        desk = moving((0, 1, 2, 7))
        told(self, desk, (("write 0", "0 1"), ("write 7", "refused: BadPoint 7"), ("write 99999", "refused: BadPoint 99999"),
                          ("lost 7", "refused: BadPoint 7"), ("write 0", "0 0"), ("lost 0", "ok"), ("lost 0", "ok"), ("write 0", "-"),
                          ("write 1", "0 1")))
        desk = stored((0, 1, 2, 7))
        told(self, desk, (("write 0", "-"), ("put a:", "ok 0"), ("write 0", "1 2"), ("lost 0", "ok"), ("write 0", "-"),
                          ("write 7", "refused: BadPoint 7"), ("lost 3", "refused: BadPoint 3")))

    def test_get(self):
        desk = stored()
        told(self, desk, (("put a: 5 0 12 & put b0:", "ok 0"), ("get a", "5 0 12"), ("get b0", "-"),
                          ("get c", "refused: NoName -1 c"), ("get 999999", "refused: NoName -1 999999"), ("get abcdefg", BAD),
                          ("get A", BAD), ("get ", BAD), ("get", BAD), ("get a ", BAD), ("get a b", BAD), ("get  a", BAD)))

    def test_shift(self):
        desk = stored((0, 1, 2, 41, 9))
        told(self, desk, (
            ("put a: 7", "ok 0"), ("shift 41 4 9 far / x y / nothing", "ok"), ("state", LEFT), ("flush", LEFT), ("look", "0 0 -"),
            ("write 0", "refused: BadPoint 0"), ("write 9", "0 17"), ("answer", "refused: NotWhole 0"),
            ("shift 41 5 9 / x / nothing", "ok")))
        written(desk, (9,))
        told(self, desk, (("answer", "ok"), ("state", "a: 7"), ("sure", "0"), ("look", "2 0 a: 7"),
                          ("strike", "0:0 0:1 0:2 1:9"), ("strike", "-"), ("look", "2 0 a: 7"), ("shift 43 3 9 / x / nothing",
                                                                                             "refused: BadCharter 3"),
                          ("shift 41 3 9 5 / x y / nothing", "refused: BadPoint 5"), ("state", "a: 7")))

    def test_shift_too_great(self):
        desk = stored((0, 1, 2), "41 4 0 1 2 / a b c / " + BOOK)
        told(self, desk, (("put a:" + " 1" * 40, "ok 0"), ("shift " + CHARTER, "refused: TooGreat 43"), ("sure", "0")))

    def test_fall_and_lose(self):
        desk = moving()
        told(self, desk, (
            ("fall 0 1: 0:1 63:65520", "ok"), ("fall 0 1: -", "ok"), ("write 1", "0 1"), ("fall 0 1: 5:5", "ok"), ("write 1", "-"),
            ("fall 7 0: 0:0", "ok"), ("look", "refused: NoCharter 7"), ("fall 7 3: 0:0", "refused: BadPoint 3"),
            ("fall 7 0: 64:0", "refused: BadTape -1"), ("fall 7 0: 0:65521", "refused: BadTape -1"),
            ("fall 7 0: 0:0 0:99999", "refused: BadTape -1"), ("fall 99999 0: 0:0", "ok"), ("look", "refused: NoCharter 99999"),
            ("lose 3", "refused: BadPoint 3"), ("lose 0", "ok"), ("look", "refused: NoVolume 0")))
        desk = moving()
        told(self, desk, (("fall 0 1: " + " ".join(["0:0"] * 1025), "refused: BadTape -1"),
                          ("fall 0 1: " + " ".join(["0:0"] * 1024), "ok")))

    def test_lose_strikes_all_tapes_of_one_shelf(self):
        desk = moving((0, 1, 2, 9))
        told(self, desk, (("lose 77777", "ok"), ("lose 0", "ok"), ("fall 3 9: 0:0", "ok"), ("fall 4 9: 0:0", "ok"),
                          ("fall 4 1: 0:0", "ok"), ("lose 9", "ok"), ("look", "refused: NoCharter 4"), ("lose 8", "refused: BadPoint 8"),
                          ("lose 1", "ok"), ("look", "refused: NoVolume 0"), ("lose 8", "ok")))

    def test_wrong_forms_of_fall(self):
        desk = moving()
        for row in ("fall", "fall ", "fall 0", "fall 0 1", "fall 0 1:", "fall 0 1: ", "fall 0 1:0:0", "fall 0 1:-", "fall 0 1:  0:0",
                    "fall 0 1: 0:0 ", "fall 0 1: 0:0  0:0", "fall 0  1: 0:0", "fall  0 1: 0:0", "fall 0 1 : 0:0", "fall 0 1: -,",
                    "fall 0 1: 0", "fall 0 1: 0:", "fall 0 1: :0", "fall 0 1: 0:0:0", "fall 0 1: 00:0", "fall 0 1: 0:01",
                    "fall 0 1: 0:-1", "fall 0 1: - 0:0", "fall 0 1: 0:0 -", "fall 00 1: 0:0", "fall 0 01: 0:0", "fall -1 1: 0:0",
                    "fall 0 -1: 0:0", "fall 100000 1: 0:0", "fall 0 1: 100000:0", "fall 0 1: 0:100000", "fall 0 1 2: 0:0",
                    "fall a 1: 0:0", "fall 0 a: 0:0", "fall 0: 0:0", "fall 0 1: a:0", "fall 0 1; 0:0", "fall 0 1: 0 :0"):
            same(self, (row, desk.row(row)), (row, BAD))
        same(self, desk.row("write 1"), "0 1")

    def test_stop(self):
        desk = stored()
        told(self, desk, (("put a:", "ok 0"), ("stop", "ok"), ("put b:", LEFT), ("stop", "ok"), ("write 0", LEFT), ("answer", LEFT),
                          ("shift " + CHARTER, LEFT), ("look", "0 0 -")))

    def test_look(self):
        desk = StoreDesk((0, 1, 2))
        told(self, desk, (("look", "refused: NoVolume 0"), ("lay " + CHARTER, "ok"), ("look", "refused: NoVolume 0")))
        written(desk)
        told(self, desk, (("look", "0 0 -"), ("answer", "ok"), ("put b: 1 & put a:", "ok 0"), ("look", "0 0 -")))
        written(desk)
        told(self, desk, (("look", "0 1 a: & b: 1"), ("sure", "1")))

    def test_damaged(self):
        desk = stored()
        for point in (0, 1, 2):
            told(self, desk, (("fall 0 " + str(point) + ": 0:1 0:0 0:0 1:1 1:0 1:0", "ok"),))
        told(self, desk, (("look", "refused: Damaged 0"), ("open " + CHARTER, "refused: Damaged 0"), ("state", "-")))

    def test_lay_and_open(self):
        desk = stored()
        told(self, desk, (("put a: 1", "ok 0"), ("lay " + CHARTER, "refused: Old 0"), ("state", "a: 1"),
                          ("open 43 3 0 1 2 / a b c / nothing", "refused: BadCharter 3"), ("state", "a: 1"),
                          ("open 41 3 0 1 7 / a b c / nothing", "refused: BadPoint 7"), ("state", "a: 1"),
                          ("open " + CHARTER, "ok"), ("state", LEFT), ("sure", LEFT), ("write 0", "0 1")))
        written(desk)
        told(self, desk, (("answer", "ok"), ("state", "-"), ("look", "1 0 -"), ("stop", "ok"), ("open " + CHARTER, "ok")))
        desk = moving()
        told(self, desk, (("write 0", "0 1"), ("lay 41 3 2 / x / nothing", "ok"), ("write 0", "refused: BadPoint 0"),
                          ("write 2", "0 1"), ("open " + CHARTER, "refused: NoVolume 0"), ("write 2", "0 0")))

    def test_answer_and_strike(self):
        desk = moving()
        told(self, desk, (("strike", LEFT), ("answer", "refused: NotWhole 0")))
        written(desk)
        told(self, desk, (("answer", "ok"), ("answer", LEFT), ("strike", "-"), ("shift " + CHARTER, "ok")))
        written(desk)
        told(self, desk, (("answer", "ok"), ("fall 0 1: -", "ok"), ("strike", "0:0 0:2"), ("strike", "-")))


class Forms(unittest.TestCase):
    def test_rows_of_no_form(self):
        for desk in (StoreDesk((0, 1, 2)), moving(), stored()):
            for row in ("", " ", "x", "put", "drop", "move", "swap", "lay", "open", "shift", "write", "lost", "lose", "get", "fall",
                        "flush ", " flush", "flush 0", "sure ", "sure 0", "state ", "state a", "stop ", "look ", "look 0", "answer ",
                        "answer 0", "strike ", "strike 0:0", "Flush", "FLUSH", "write ", "write  0", "write 0 ", " write 0", "write 00",
                        "write 01", "write -1", "write +1", "write a", "write 0 1", "write 100000", "write 000000", "write far",
                        "lost ", "lost 01", "lost 0 ", "lose ", "lose 0 1", "lose -", "lay ", "lay  " + CHARTER[:7], "lay 41 3 0 1 2",
                        "lay 41 3 0 / a", "lay 41 3 0/a/nothing", "shift 41 3 0 / a", "open a / b", "open / /", "laya", "laid " + CHARTER, "opens " + CHARTER, "x " + CHARTER, "lay: a / b / c",
                        "put: a", "flush\n", "write 0\n", "\nflush", "write\t0", "flushsure", "do put a:", "nothing", "quit",
                        "write \u0660"):
                same(self, (row, desk.row(row)), (row, BAD))

    def test_what_is_no_text(self):
        desk = stored()
        for thing in STRANGE + (b"flush", ["flush"], ("flush",)):
            if not isinstance(thing, str):
                same(self, desk.row(thing), BAD)

    def test_what_each_row_needs(self):
        for row, need in ROWS:
            for make, serves in ((lambda: StoreDesk((0, 1, 2)), ("neither",)), (moving, ("neither", "either", "move")),
                                 (stored, ("neither", "either", "store"))):
                same(self, (row, make().row(row) == LEFT), (row, need not in serves))

    def test_left_comes_behind_the_form_and_ahead_of_all_else(self):
        for desk in (StoreDesk((0, 1, 2)), moving()):
            for row, answer in (("drop a b", LEFT), ("put a: 99999", LEFT), ("put ", LEFT), ("drop  ", LEFT), ("get zzz", LEFT),
                                ("get zzzzzzz", BAD), ("get", BAD), ("flush ", BAD), ("strike x", BAD)):
                same(self, (row, desk.row(row)), (row, answer))
        desk = StoreDesk((0, 1, 2))
        told(self, desk, (("shift x / y / z", LEFT), ("shift  /  / ", LEFT), ("shift x / y", BAD), ("write 99999", LEFT),
                          ("write 099999", BAD), ("lost 77777", LEFT), ("lost x", BAD)))
        told(self, stored(), (("shift x / y / z", BAD), ("shift 41 3 0 / A / x", "refused: BadNames 0"), ("write 77777",
                                                                                                     "refused: BadPoint 77777")))

    def test_one_sign_changed(self):
        """No row raises anything, and what is refused changes nothing."""
        for row, _ in ROWS:
            for other in signs_changed(row, "0 a:/\n"):
                for desk in (stored(), moving()) if len(row) < 12 else (stored(),):
                    before = kept(desk)
                    answer = desk.row(other)
                    same(self, type(answer), str)
                    if answer.startswith("refused: "):
                        same(self, (other, kept(desk)), (other, before))


def kept(desk):
    """What can be told of a desk."""
    return desk.row("state"), desk.row("sure"), desk.row("look"), desk.row("answer") == LEFT


class CharterTexts(unittest.TestCase):
    def test_each_of_the_three_parts_wrong(self):
        for word in ("lay", "open", "shift"):
            desk = stored()
            if word == "lay":
                desk = StoreDesk((0, 1, 2))
            for text, answer in (
                    ("41 3 0 1 2 5 5 / A / x", BAD), ("41 3 0 1  2 / a b c / nothing", BAD), (" 41 3 0 / a / nothing", BAD),
                    ("/ a / b / nothing", BAD), ("41 3 41 / a / nothing", BAD), ("42 3 0 / a / nothing", BAD),
                    ("41 3 0  / a / nothing", BAD),
                    ("41 3 0 / A / x", "refused: BadNames 0"), ("41 3 0 1 / a  b / x", "refused: BadNames 1"),
                    ("41 3 0 1 / a b  / x", "refused: BadNames 2"), ("41 3 0 1 /  a b / x", "refused: BadNames 0"),
                    ("41 3 0 /  / x", "refused: BadNames 0"), ("41 3 0 1 / a a / x", "refused: BadNames 1"),
                    ("41 3 0 1 / a any / x", "refused: BadNames 1"), ("41 3 0 / a b c d e f g h i / x", "refused: BadNames -1"),
                    ("41 3 0 / a / x", BAD), ("41 3 0 / a / ", BAD), ("41 3 0 / a / lose any 1 x", "refused: BadText 11"),
                    ("41 3 0 1 / a b / nothing / c", "refused: BadText 8"), ("41 3 0 / a / cut 65 a", "refused: BadNumber 4"),
                    ("41 3 0 / a / lose b", "refused: NoName 5"), ("41 3 0 / a / lose a a", "refused: Twice 7"),
                    ("41 3 0 1 2 / a b / nothing", "refused: BadBook 0"), ("41 3 0 1 / a b c / nothing", "refused: BadBook 0"),
                    ("37 2 0 / a / lose a", "refused: BadCharter 1"), ("41 2 0 / a / lose a", "refused: BadCharter 2"),
                    ("41 3 0 / a / lose a", "refused: Hopeless 0"), ("41 3 9 / a / nothing", "refused: BadPoint 9"),
                    ("41 3 0 1 / a b / lose any 1 of a; lose any 3", "refused: BadNumber 26")):
                same(self, (text, desk.row(word + " " + text)), (text, answer))
            same(self, desk.row(word + " 41 3 0 1 2 / a b c /   lose   any 1;nothing  "), "ok")

    def test_too_many_rows(self):
        names = " ".join("abcdefgh")
        row = "lay 41 3 0 1 2 3 4 5 6 7 / " + names + " / lose any 3"
        same(self, StoreDesk((0,)).row(row), "refused: TooMany 0")

    def test_divided_at_the_first_two_places(self):
        told(self, StoreDesk((0,)), (("lay 41 3 0 / a / nothing / nothing", "refused: BadText 8"), ("lay 41 3 0 / / nothing", BAD),
                                     ("lay 41 3 0 / / / nothing", "refused: BadNames 0"), ("lay 41 3 0 / a / nothing", "ok")))


class Charters(unittest.TestCase):
    def test_kept_from_the_moment_at_which_the_move_is_made(self):
        desk = moving()
        told(self, desk, (("write 0", "0 1"), ("stop", "ok"), ("look", "refused: NoVolume 0"), ("lay " + CHARTER, "ok"),
                          ("write 1", "0 1"), ("look", "refused: NoVolume 0")))

    def test_a_later_move_of_the_same_volume_takes_its_place(self):
        desk = moving((0, 1, 2, 41))
        told(self, desk, (("lay 43 5 2 1 / x y / nothing", "ok"), ("write 0", "refused: BadPoint 0")))
        written(desk, (1, 2))
        told(self, desk, (("look", "0 0 -"), ("answer", "ok"), ("put a: 42", "ok 0"), ("flush", "ok")))
        written(desk, (1, 2))
        told(self, desk, (("stop", "ok"), ("look", "0 1 a: 42"), ("open 43 3 0 / z / nothing", "ok")))
        written(desk, (0,))
        told(self, desk, (("answer", "ok"), ("state", "a: 42"), ("look", "1 0 a: 42"), ("lose 0", "ok"), ("look", "0 1 a: 42")))

    def test_what_is_refused_keeps_no_charter(self):
        desk = StoreDesk((0, 1, 2))
        told(self, desk, (("lay 41 3 9 / a / nothing", "refused: BadPoint 9"), ("fall 0 0: 0:0", "ok"),
                          ("look", "refused: NoCharter 0")))


class BesideTheFunctions(unittest.TestCase):
    """The desk beside the device and the functions that its rows stand for."""

    def setUp(self):
        self.device = Shelves((0, 1, 2, 41))
        self.charters, self.writer = {}, None

    def charter(self, text):
        """The charter of a text that has no fault."""
        ground, names, book = text.split(" / ")
        return (read_ground(ground), read_book(tuple(names.split(" ")), book))

    def answer(self, row):
        """The answer to a row that has a form, by the table of [21.2]."""
        word, _, rest = row.partition(" ")
        known = tuple(sorted(self.charters.items()))
        is_store = self.writer is not None and not isinstance(self.writer, Move)
        if word in ("lay", "open", "shift"):
            if word == "shift":
                if self.writer is None:
                    return LEFT
                move = self.writer.move(self.charter(rest))
            else:
                move = {"lay": lay, "open": opened}[word](self.device, known, self.charter(rest))
            self.writer = move
            self.charters[move.volume()] = move.charter()
            return "ok"
        if word == "look":
            volume, state, groups = look(self.device, known)
            return f"{volume} {groups} {state_text(state) or '-'}"
        if word == "stop":
            self.writer = None
            return "ok"
        if word == "lose":
            for volume in self.device.volumes():
                self.device.strike(volume, int(rest))
            return "ok"
        if word in ("write", "lost") and self.writer is not None:
            made = getattr(self.writer, word)(int(rest))
            return "ok" if word == "lost" else "-" if made is None else f"{made[0]} {made[1]}"
        if word == "answer" and isinstance(self.writer, Move):
            self.writer = self.writer.store()
            return "ok"
        return self.answer_of_store(word, row) if is_store and word != "answer" else LEFT

    def answer_of_store(self, word, row):
        """The answer to a row that needs a Store."""
        store = self.writer
        if word == "flush":
            store.flush()
            return "ok"
        if word == "sure":
            return str(store.sure())
        if word == "state":
            return state_text(store.state()) or "-"
        if word == "get":
            return " ".join(map(str, store.row_of(row[4:]))) or "-"
        if word == "strike":
            pairs = store.strike_elder()
            for pair in pairs:
                self.device.strike(*pair)
            return " ".join(f"{volume}:{point}" for volume, point in pairs) or "-"
        return f"ok {store.do(read_group(store.charter()[0][0], row))}"

    def some_row(self, chance):
        """A row by chance."""
        kind = chance.random()
        if self.writer is None and kind < 0.7:
            return chance.choice(("lay ", "open ")) + CHARTER
        if isinstance(self.writer, Move) and kind < 0.1:
            return "answer"
        if kind < 0.6:
            return "write " + chance.choice("012")
        if kind < 0.75:
            return print_group(some_group(chance, 41, 2))
        if kind < 0.8:
            return chance.choice(("lay ", "open ", "shift ")) + chance.choice(
                (CHARTER, "41 4 0 1 far / a b c / lose any 1", "41 3 0 2 / x y / nothing", "41 3 0 7 / x y / nothing"))
        if kind < 0.83:
            return chance.choice(("stop", "lose 1", "lost 2", "lost 9", "write 41"))
        return chance.choice(("flush", "sure", "state", "get a", "get b", "get 9", "answer", "strike", "look"))

    def test_by_chance(self):
        chance = random.Random(1)
        seen = {}
        for _ in range(40):
            self.setUp()
            desk = StoreDesk((0, 1, 2, 41))
            for _ in range(150):
                row = self.some_row(chance)
                try:
                    wanted = self.answer(row)
                except Refused as error:
                    what = error.what if isinstance(error.what, tuple) else (error.what,)
                    wanted = f"refused: {type(error).__name__} " + " ".join(map(str, what))
                same(self, (row, desk.row(row)), (row, wanted))
                word = " ".join(wanted.split(" ")[:2]) if wanted.startswith("refused") else row.split(" ")[0]
                seen[word] = seen.get(word, 0) + 1
        for word in ("write", "put", "drop", "shift", "answer", "strike", "look", "stop", "lose", "lost", "get", "sure", "state",
                     "refused: Left", "refused: NoName", "refused: Old", "refused: NotWhole", "refused: BadPoint"):
            self.assertGreater(seen.get(word, 0), 2, (word, seen))

    def test_by_name(self):
        same(self, StoreDesk(points=(0,)).row(text="stop"), "ok")


if __name__ == "__main__":
    unittest.main()
