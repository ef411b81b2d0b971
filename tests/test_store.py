"""The store ([16] to [16.5])."""

import random
import unittest

from firstsafe.deeds import applied
from firstsafe.errors import (BadBook, BadCharter, BadGround, BadGroup, BadPoint, Full, Hopeless, Left, NoName, Refused, There,
                              TooGreat)
from firstsafe.figures import image
from firstsafe.groups import group_figures
from firstsafe.logbatches import closing, cut
from firstsafe.moves import Move
from firstsafe.shelves import Shelves
from tests.helper import (CHARTER, FINE, NO_NUMBERS, NO_TUPLES, PlainVolume, nested, refuses, same, some_charter, some_group,
                          some_state, state_with, tapes_on, whole_store, write_all)

POINTS = (0, 1, 2)
GROUND = (41, 3, POINTS)
NOTHING = ((FINE,) * 3,)
PLAIN = (GROUND, NOTHING)
STATE = (("a", (5, 6)), ("b", ()))


def asks(store):
    """Every method of a Store, with arguments that are wrong where there are any."""
    return ((store.volume,), (store.charter,), (store.state,), (store.sure_state,), (store.handed,), (store.sure,),
            (store.row_of, None), (store.names,), (store.do, None), (store.flush,), (store.write, None), (store.lost, 99),
            (store.safe_many,), (store.move, None), (store.strike_elder,))


def shown(store):
    """What a Store tells without being changed."""
    return (store.volume(), store.charter(), store.state(), store.sure_state(), store.handed(), store.sure(), store.names(),
            store.safe_many(), store.strike_elder())


def filling(figures):
    """A group of small states with just so many figures, from 5 on."""
    group = ()
    while len(group_figures(group)) < figures:
        rest = figures - len(group_figures(group))
        group += (("put", "a", (7,) * min(24, rest - 4 if rest < 28 or rest > 32 else 10)),)
    return group


class PlainStore(PlainVolume):
    """A Store by the words of [16], beside the writing of its volume."""

    def __init__(self, charter, state):
        k = charter[0][1]
        images = cut(k, 0, image(state))
        PlainVolume.__init__(self, charter, images + (closing(k, len(images)),))
        self.states, self.lasts, self.open = [state], [], []

    def refusal(self, group):
        """The class and the `what` with which the group is refused, None if it is done."""
        k = self.ground[1]
        try:
            state = applied(self.states[-1], group)
        except (NoName, There) as error:
            return type(error), error.what
        if len(image(state)) > 40 * (k - 2):
            return TooGreat, len(image(state))
        o, f, g = len(self.batches), len(self.open), len(group_figures(group))
        m = -((f + g) // -(k - 2))
        return None if o + m <= 64 else (Full, o + m - 64)

    def do(self, group):
        """Does the group; its number."""
        self.states.append(applied(self.states[-1], group))
        for figure in group_figures(group):
            self.open.append(figure)
            last = len(self.batches)
            if len(self.open) == self.ground[1] - 2:
                self.flush()
        self.lasts.append(last)
        return len(self.lasts) - 1

    def flush(self):
        """Begins the open batch if it has figures."""
        if self.open:
            self.batches.append((2, len(self.open)) + tuple(self.open) + (0,) * (self.ground[1] - 2 - len(self.open)))
            self.open = []

    def sure(self):
        """How many groups are sure."""
        return sum(all(self.is_safe(b) for b in range(last + 1)) for last in self.lasts)


def pair_of_stores(charter, state):
    """A Store, a plain one with the same tapes, and the device."""
    device = Shelves((0, 1, 2, 41))
    move, plain = Move(device, 0, charter, state), PlainStore(charter, state)
    for point, cell in write_all(move, charter[0][2]):
        plain.tapes[point].append(cell)
    return move.store(), plain, device


class Telling(unittest.TestCase):
    def test_at_first(self):
        store = whole_store(Shelves(POINTS), CHARTER, STATE, 3)
        same(self, shown(store), (3, CHARTER, STATE, STATE, 0, 0, ("a", "b"), 9, ()))
        same(self, (store.row_of("a"), store.row_of("b")), ((5, 6), ()))

    def test_rows_and_names(self):
        store = whole_store(Shelves(POINTS))
        store.do((("put", "z", (1,)), ("put", "0", ()), ("put", "aa", (2, 3))))
        same(self, (store.names(), store.row_of("z"), store.row_of("0"), store.row_of("aa")), (("aa", "z", "0"), (1,), (), (2, 3)))
        for name in ("a", "", "A", "abcdefg", None, 0, True, ("z",), nested(18)):
            refuses(self, NoName, (-1, name), store.row_of, name)
        store.do((("drop", "z"),))
        refuses(self, NoName, (-1, "z"), store.row_of, "z")

    def test_groups_are_counted_from_0_in_each_store(self):
        device = Shelves(POINTS)
        store = whole_store(device)
        same(self, [store.do((("put", "a", ()),)) for _ in range(3)], [0, 1, 2])
        same(self, store.handed(), 3)
        move = store.move(CHARTER)
        write_all(move, POINTS)
        store = move.store()
        same(self, (store.handed(), store.sure(), store.do((("drop", "a"),)), store.handed()), (0, 0, 0, 1))


class Doing(unittest.TestCase):
    def test_beside_plain_stores(self):
        chance = random.Random(1)
        seen = {"done": 0, "sure": 0, NoName: 0, There: 0, TooGreat: 0, Full: 0, "flush": 0, "written": 0, "spare": 0}
        for turn in range(28):
            k = chance.choice((3, 3, 4, 5))
            charter = some_charter(chance, (0, 1, 2, 41), k, 3)
            state = state_with(30 * (k - 2)) if turn % 4 == 0 else some_state(chance, 41, 2)
            store, plain, device = pair_of_stores(charter, state)
            points = charter[0][2]
            paces = [chance.choice((1, 1, 9)) for _ in points]
            for _ in range(70):
                deed = chance.random()
                if deed < 0.2:
                    group = some_group(chance, 41, chance.choice((1, 1, 2, 8)))
                    refusal = plain.refusal(group)
                    if refusal is None:
                        same(self, store.do(group), plain.do(group))
                        seen["done"] += 1
                    else:
                        before = shown(store)
                        refuses(self, *refusal, store.do, group)
                        same(self, shown(store), before)
                        seen[refusal[0]] += 1
                elif deed < 0.25:
                    seen["flush"] += len(plain.open) > 0
                    same(self, store.flush(), None)
                    plain.flush()
                else:
                    point = chance.choices(points, paces)[0]
                    wanted = plain.write(point)
                    same(self, store.write(point), wanted)
                    same(self, device.tape(0, point), tuple(plain.tapes[point]))
                    seen["written"] += wanted is not None
                    if wanted is not None and [b for b, _ in plain.tapes[point]].count(wanted[0]) > k:
                        seen["spare"] += 1
                sure = plain.sure()
                seen["sure"] += sure
                same(self, (store.state(), store.sure_state(), store.handed(), store.sure(), store.safe_many()),
                     (plain.states[-1], plain.states[sure], len(plain.lasts), sure, plain.safe_many()))
        self.assertGreater(min(seen.values()), 0, seen)

    def test_which_batches_are_begun(self):
        """k is 5, so a batch has three figures; the closing batch is batch 0."""
        device = Shelves(POINTS)
        store = whole_store(device, ((41, 5, POINTS), NOTHING))
        same(self, write_all(store, POINTS), [])
        store.do((("put", "a", ()),))
        # Five figures: batch 1 is begun, two figures wait.
        got = write_all(store, POINTS)
        same(self, sorted({cell[0] for _, cell in got}), [1])
        same(self, (store.safe_many(), store.sure()), (2, 0))
        store.do((("drop", "a"),))
        # Four more: batch 2 has the figures 0 0 1, batch 3 the figures 2 1 0 and is full, too.
        got = write_all(store, POINTS)
        same(self, sorted({cell[0] for _, cell in got}), [2, 3])
        same(self, (store.safe_many(), store.sure()), (4, 2))
        same(self, device.tape(0, 0)[-2:], ((3, 2), (3, 3)))
        store.flush()
        same(self, write_all(store, POINTS), [])

    def test_flush_with_and_without_figures(self):
        device = Shelves(POINTS)
        store = whole_store(device, ((41, 12, POINTS), NOTHING))
        same(self, store.flush(), None)
        same(self, write_all(store, POINTS), [])
        store.do((("put", "a", ()),))
        same(self, write_all(store, POINTS), [])
        same(self, (store.flush(), store.flush()), (None, None))
        store.do((("put", "b", ()),))
        got = write_all(store, POINTS)
        same(self, sorted({cell[0] for _, cell in got}), [1])
        same(self, (store.sure(), store.sure_state(), store.state()), (1, (("a", ()),), (("a", ()), ("b", ()))))
        same(self, device.tape(0, 0)[-4:], ((1, 2), (1, 5), (1, 1), (1, 1)))
        store.flush()
        write_all(store, POINTS)
        same(self, store.sure(), 2)

    def test_a_begun_batch_never_changes(self):
        """One cell of batch 1 is written before the next group comes, the others behind it."""
        one, two = Shelves(POINTS), Shelves(POINTS)
        first, second = whole_store(one, ((41, 6, POINTS), NOTHING)), whole_store(two, ((41, 6, POINTS), NOTHING))
        for store in (first, second):
            store.do((("put", "a", ()),))
        first.write(0)
        first.do((("put", "b", (9,)),))
        same(self, [first.write(0), first.write(1)], [(1, 4), (1, (2 + 4 + 1 + 1 + 1 + 0) % 41)])
        same(self, (second.write(0), second.write(0), second.write(1)), ((1, 2), (1, 4), (1, 9)))

    def test_a_group_over_several_batches(self):
        device = Shelves(POINTS)
        store = whole_store(device, PLAIN)
        store.do((("put", "a", (7, 8)),))
        # The figures 1 1 1 0 2 7 8 in the batches 1 to 7.
        for wanted in range(7):
            same(self, (store.sure(), store.safe_many()), (0, 1 + wanted))
            write_all(store, POINTS, 1)
        same(self, (store.sure(), store.safe_many()), (1, 8))
        same(self, [cell for cell in device.tape(0, 0)], [(0, 1)] + [(b, 2) for b in range(1, 8)])

    def test_one_batch_with_the_ends_of_several_groups(self):
        store = whole_store(Shelves(POINTS), ((41, 12, POINTS), NOTHING))
        store.do((("put", "a", ()),))
        store.do((("drop", "a"),))
        store.flush()
        same(self, store.sure(), 0)
        write_all(store, POINTS)
        same(self, store.sure(), 2)


class Sure(unittest.TestCase):
    def test_at_the_very_cell(self):
        chance = random.Random(2)
        for _ in range(12):
            charter = some_charter(chance, (0, 1, 2, 41), 3, 3)
            store, plain, _ = pair_of_stores(charter, ())
            for number in range(3):
                group = (("put", "abc"[number], ()),)
                store.do(group)
                plain.do(group)
            for _ in range(150):
                point = chance.choice(charter[0][2])
                same(self, store.write(point), plain.write(point))
                same(self, store.sure(), plain.sure())

    def test_a_batch_that_is_safe_above_one_that_is_not(self):
        """A shelf that stays behind: batch 2 is safe, batch 1 is not; so no group is sure."""
        book = ((FINE, FINE, FINE), (FINE, FINE, (0, 3)))
        store = whole_store(Shelves(POINTS), ((41, 12, POINTS), book))
        before = store.safe_many()
        store.do((("put", "a", (1,) * 20),))
        got = [store.write(0)[0] for _ in range(23)]
        same(self, got, [1] * 12 + [2] * 11)
        same(self, (before, store.safe_many(), store.sure()), (1, 2, 0))

    def test_sure_groups_stay_sure_when_shelves_are_lost(self):
        store = whole_store(Shelves(POINTS), PLAIN)
        store.do((("put", "a", ()),))
        write_all(store, POINTS)
        same(self, store.sure(), 1)
        for point in POINTS:
            store.lost(point)
        store.do((("put", "b", ()),))
        same(self, write_all(store, POINTS), [])
        same(self, (store.sure(), store.sure_state(), store.state()), (1, (("a", ()),), (("a", ()), ("b", ()))))


class Refusals(unittest.TestCase):
    def test_of_do_in_their_order(self):
        store = whole_store(Shelves(POINTS), PLAIN, state_with(38))
        before = shown(store)
        for group, what in tuple((thing, -1) for thing in NO_TUPLES + ((), (("drop", "y"),) * 9)) + (
                (("drop", "y"), 0), ((("drop", "y"), None), 1), ((("drop", "y"), ("put", "a", (41,))), 1),
                ((("put", "y", (0,) * 41),), 0)):
            refuses(self, BadGroup, what, store.do, group)
        refuses(self, NoName, (1, "y"), store.do, (("put", "z", (0,) * 40), ("drop", "y")))
        refuses(self, There, (1, "a"), store.do, (("put", "z", (0,) * 40), ("move", "z", "a")))
        refuses(self, TooGreat, 81, store.do, (("put", "z", (0,) * 40),))
        same(self, shown(store), before)
        # Three more figures are one too many; the group would not fit into the volume either.
        refuses(self, TooGreat, 41, store.do, (("put", "z", ()),))
        same(self, shown(store), before)

    def test_too_great(self):
        for k in (3, 5, 12):
            most = 40 * (k - 2)
            store = whole_store(Shelves(POINTS), ((41, k, POINTS), NOTHING), state_with(most - 3))
            refuses(self, TooGreat, most + 1, store.do, (("put", "z", (7,)),))
            refuses(self, TooGreat, most + 1, store.do, (("put", "y", ()), ("move", "y", "yy")))
            same(self, (store.handed(), store.state()), (0, state_with(most - 3)))
            if k > 3:
                same(self, store.do((("put", "z", ()),)), 0)
                refuses(self, TooGreat, most + 3, store.do, (("put", "y", ()),))
                # Only the state behind all deeds counts.
                same(self, store.do((("put", "y", ()), ("drop", "y"))), 1)

    def test_full(self):
        """k is 3, and the closing batch is batch 0: 63 figures fit."""
        for ahead in (0, 1, 6):
            store = whole_store(Shelves(POINTS), PLAIN)
            for _ in range(ahead):
                # Eight figures each time, which leave the state as it was.
                store.do((("put", "a", ()), ("drop", "a")))
            room = 63 - 8 * ahead
            for figures in (room + 1, room + 2, room + 20):
                group = filling(figures)
                same(self, len(group_figures(group)), figures)
                refuses(self, Full, figures - room, store.do, group)
            same(self, store.handed(), ahead)
            same(self, store.do(filling(room)), ahead)
            refuses(self, Full, 5, store.do, (("put", "a", ()),))
            same(self, (store.handed(), store.flush()), (ahead + 1, None))
            refuses(self, Full, 6, store.do, (("put", "a", (1,)),))

    def test_full_with_an_open_batch(self):
        """k is 12: ten figures in a batch. Flushed batches leave room unused."""
        store = whole_store(Shelves(POINTS), ((41, 12, POINTS), NOTHING))
        store.do((("put", "a", ()),))
        for _ in range(61):
            store.flush()
            store.do((("swap", "a", "a"),))
        # The batches 1 to 61 are begun; batch 62 is open with the six figures of the last group.
        same(self, len(group_figures((("swap", "a", "a"),))), 6)
        refuses(self, Full, 1, store.do, (("put", "a", (1,) * 10),))
        same(self, store.do((("put", "a", (1,) * 9),)), 62)
        refuses(self, Full, 1, store.do, (("swap", "a", "a"),))
        same(self, store.flush(), None)
        write_all(store, POINTS)
        same(self, (store.safe_many(), store.sure(), store.handed()), (64, 63, 63))
        refuses(self, Full, 1, store.do, (("drop", "a"),))
        refuses(self, Full, 2, store.do, (("put", "a", (0,) * 6),))

    def test_too_great_comes_before_full(self):
        store = whole_store(Shelves(POINTS), PLAIN, state_with(40))
        refuses(self, TooGreat, 43, store.do, (("put", "z", ()),))
        refuses(self, Full, 19, store.do, (("drop", "a"), ("put", "a", (0,) * 34)))
        refuses(self, NoName, (1, "a"), store.do, (("drop", "a"),) * 8)

    def test_of_the_other_methods(self):
        store = whole_store(Shelves((0, 1, 2, 7)), PLAIN)
        for point in NO_NUMBERS + (None, 7, 3, -1, 41):
            refuses(self, BadPoint, point, store.write, point)
            refuses(self, BadPoint, point, store.lost, point)


class LeftBehind(unittest.TestCase):
    def test_every_method_is_left_ahead_of_its_own_refusals(self):
        for leave in (lambda device, store: store.move(CHARTER), lambda device, store: Move(device, 9, CHARTER, ())):
            device = Shelves(POINTS)
            store = whole_store(device)
            store.do((("put", "a", ()),))
            leave(device, store)
            before = tapes_on(device)
            for call, *arguments in asks(store):
                refuses(self, Left, 0, call, *arguments)
            refuses(self, Left, 0, store.do, (("put", "b", ()),))
            refuses(self, Left, 0, store.write, 0)
            same(self, tapes_on(device), before)

    def test_a_refused_move_leaves_nothing(self):
        device = Shelves(POINTS)
        store = whole_store(device)
        store.do((("put", "a", ()),))
        before = shown(store)
        refuses(self, BadCharter, 3, store.move, ((43, 3, POINTS), NOTHING))
        same(self, shown(store), before)
        same(self, store.write(0), (1, 2))


class Moving(unittest.TestCase):
    def test_to_other_points_another_k_and_another_book(self):
        device = Shelves((0, 1, 2, 41, 9))
        store = whole_store(device, CHARTER, STATE, 4)
        store.do((("put", "c", (1, 2)),))
        wanted = STATE + (("c", (1, 2)),)
        same(self, store.sure(), 0)
        for points, k, book in (((9, 41), 3, ((FINE, (1, 1)),)), ((41,), 12, ((FINE,),)), ((0, 1, 2, 41, 9), 5, ((FINE,) * 5,)),
                                (POINTS, 3, CHARTER[1])):
            charter = ((41, k, points), book)
            number = device.volumes()[-1] + 1
            move = store.move(charter)
            same(self, (move.volume(), move.charter()), (number, charter))
            write_all(move, points)
            store = move.store()
            same(self, (store.state(), store.sure_state(), store.handed(), store.volume()), (wanted, wanted, 0, number))

    def test_numbers_of_new_volumes_with_gaps(self):
        device = Shelves(POINTS)
        store = whole_store(device, CHARTER, (), 10 ** 20)
        device.fall(10 ** 20 + 7, 2, ((0, 0),))
        move = store.move(CHARTER)
        same(self, move.volume(), 10 ** 20 + 8)
        for volume in device.volumes():
            for point in POINTS:
                device.strike(volume, point)
        same(self, move.move(CHARTER).volume(), 0)

    def test_errors_in_order(self):
        store = whole_store(Shelves(POINTS), ((41, 4, POINTS), NOTHING), state_with(50))
        for charter, error, what in (
                (None, BadCharter, 0), ((None, None), BadGround, -1), ((GROUND, None), BadBook, -1),
                (((37, 3, (9,)), ((FINE,),)), BadCharter, 1), (((43, 2, (9,)), ((FINE,),)), BadCharter, 2),
                (((43, 3, (9,)), (((None, 0),),)), Hopeless, 0), (((43, 3, (9,)), ((FINE,),)), BadCharter, 3),
                (((41, 3, (0, 9, 8)), NOTHING), BadPoint, 9), (PLAIN, TooGreat, 50)):
            refuses(self, error, what, store.move, charter)
        # What counts is the state behind all groups.
        store.do((("drop", "a"),))
        store.move(PLAIN)


class StrikeElder(unittest.TestCase):
    def test_ahead_of_and_behind_each_strike(self):
        device = Shelves((9, 0, 1, 2, 41))
        for volume, point in ((0, 9), (0, 2), (3, 41), (3, 0), (7, 1), (8, 9)):
            device.fall(volume, point, ((1, 1),))
        move = Move(device, 9, CHARTER, STATE)
        write_all(move, POINTS)
        store = move.store()
        device.fall(12, 0, ((1, 1),))
        wanted = [(0, 2), (0, 9), (3, 0), (3, 41), (7, 1), (8, 9)]
        same(self, store.strike_elder(), tuple(wanted))
        same(self, store.strike_elder(), tuple(wanted))
        for pair in ((3, 0), (0, 9), (8, 9), (7, 1), (3, 41), (0, 2)):
            device.strike(*pair)
            wanted.remove(pair)
            same(self, store.strike_elder(), tuple(wanted))
        same(self, device.volumes(), (9, 12))

    def test_none(self):
        same(self, whole_store(Shelves(POINTS)).strike_elder(), ())

    def test_by_name(self):
        store = whole_store(Shelves(POINTS))
        same(self, store.do(group=(("put", "a", (1,)),)), 0)
        same(self, store.row_of(name="a"), (1,))
        same(self, store.write(point=0), (1, 2))
        same(self, store.lost(point=0), None)
        same(self, store.move(charter=CHARTER).volume(), 1)
        with self.assertRaises(Refused):
            store.names()


if __name__ == "__main__":
    unittest.main()
