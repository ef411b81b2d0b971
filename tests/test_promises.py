"""What is promised ([18], [18.1], [0.3] (f)): crashes, losses and lies at drawn moments, again and again."""

import random
import unittest

from firstsafe.deeds import applied
from firstsafe.errors import Full, NoName, NotWhole, NoVolume, There, TooGreat
from firstsafe.logbatches import closing
from firstsafe.moves import Move
from firstsafe.opening import lay, look, opened, standing
from firstsafe.shelves import Shelves
from tests.helper import FINE, same, some_charter, some_group, tapes_on, write_all

POINTS = (0, 1, 2, 3, 41)


class World:
    """A device whose shelves suffer what one row of the book of each volume's charter allows ([13.4])."""

    def __init__(self, case, seed):
        self.case, self.chance = case, random.Random(seed)
        self.device = Shelves(POINTS)
        self.charters, self.fates, self.written, self.gone = {}, {}, {}, {}
        self.writer, self.volume, self.struck = None, None, []
        # The state that was last answered, the groups done since then, and how many of them were ever sure.
        self.base, self.groups, self.sure = (), [], 0
        self.seen = {}

    def count(self, word):
        """Counts what happened."""
        self.seen[word] = self.seen.get(word, 0) + 1

    def some_charter(self):
        """A charter by chance."""
        return some_charter(self.chance, POINTS, self.chance.choice((3, 3, 4)), 3)

    def known(self):
        """The charters of all volumes that were begun."""
        return tuple(sorted(self.charters.items()))

    def keep(self, move, charter):
        """Goes on with a Move; its volume counts as never written."""
        self.writer, self.volume = move, move.volume()
        self.case.assertNotIn(self.volume, self.device.volumes())
        self.charters[self.volume] = charter
        self.fates[self.volume] = self.chance.choice(charter[1])
        for point in POINTS:
            self.written[self.volume, point], self.gone[self.volume, point] = [], 0

    def fault(self, volume):
        """Something befalls one shelf of the volume, within its row of the book."""
        (_, _, points), _ = self.charters[volume]
        point = self.chance.choice(points)
        u, v = self.fates[volume][points.index(point)]
        cells = self.written[volume, point]
        if (u, v) == FINE:
            return
        before = self.gone[volume, point]
        most = len(cells) if u is None else min(u, len(cells))
        gone = self.chance.choice((before, most, self.chance.randint(before, most)))
        wrong = self.chance.randint(0, len(cells) - gone if v is None else min(v, len(cells) - gone))
        self.gone[volume, point] = gone
        lies = tuple((self.chance.choice([b for b, _ in cells] + [0, 63]), self.chance.choice((0, self.chance.randrange(41), 65520)))
                     for _ in range(wrong))
        self.device.fall(volume, point, tuple(cells[:len(cells) - gone - wrong]) + lies)
        if self.writer is not None and volume == self.volume:
            self.writer.lost(point)
        self.count("fault")

    def faults(self):
        """Some faults of all volumes that were written."""
        for volume in self.charters:
            if any(self.written[volume, point] for point in POINTS):
                for _ in range(self.chance.randint(0, 3)):
                    self.fault(volume)

    def strike_some(self):
        """Throws away some tapes that are not needed any more."""
        for pair in self.chance.sample(self.struck, self.chance.randint(0, len(self.struck))):
            self.device.strike(*pair)
            self.written[pair], self.gone[pair] = [], 0
            self.count("strike")

    def write(self):
        """One shelf writes a cell, if it may."""
        point = self.chance.choice(self.charters[self.volume][0][2])
        made = self.writer.write(point)
        if made is not None:
            self.written[self.volume, point].append(made)

    def is_beginning(self, state, least):
        """The state is that of a beginning of the groups, with at least so many of them; the number of these."""
        states = [self.base]
        for group in self.groups:
            states.append(applied(states[-1], group))
        fitting = [many for many in range(least, len(states)) if states[many] == state]
        self.case.assertTrue(fitting, (state, states, least))
        return fitting

    def answer(self):
        """Asks the Move for its Store."""
        try:
            store = self.writer.store()
        except NotWhole:
            return
        self.is_beginning(store.state(), self.sure)
        self.base, self.groups, self.sure = store.state(), [], 0
        same(self.case, (store.sure_state(), store.handed()), (self.base, 0))
        self.writer = store
        self.struck = list(store.strike_elder())
        self.count("answer")

    def move_on(self):
        """Gives the volume up for a new one."""
        charter = self.some_charter()
        try:
            self.keep(self.writer.move(charter), charter)
        except TooGreat:
            return
        self.count("move")

    def run_store(self):
        """Something that a Store does."""
        deed = self.chance.random()
        if deed < 0.2:
            group = some_group(self.chance, 41, self.chance.choice((1, 1, 3)))
            try:
                self.writer.do(group)
            except (Full, NoName, There, TooGreat):
                return
            self.groups.append(group)
            self.count("group")
        elif deed < 0.25:
            self.writer.flush()
        elif deed < 0.27:
            self.move_on()
            return
        else:
            self.write()
        self.case.assertGreaterEqual(self.writer.sure(), self.sure)
        self.sure = self.writer.sure()
        same(self.case, self.writer.sure_state(), applied_all(self.base, self.groups[:self.sure]))
        same(self.case, self.writer.state(), applied_all(self.base, self.groups))

    def run(self):
        """One thing that happens."""
        if self.writer is None:
            self.begin()
        elif self.chance.random() < 0.03:
            self.crash()
        elif self.chance.random() < 0.04:
            self.fault(self.chance.choice([volume for volume in self.charters]))
        elif self.chance.random() < 0.05:
            self.strike_some()
        elif isinstance(self.writer, Move):
            for _ in range(8):
                self.write()
            if self.chance.random() < 0.03:
                self.move_on()
            else:
                self.answer()
        else:
            self.run_store()

    def crash(self):
        """All that runs stops."""
        self.writer = None
        self.faults()
        self.count("crash")

    def begin(self):
        """Looks at the device, and opens it or lays a new volume."""
        self.faults()
        try:
            volume, state, many = look(self.device, self.known())
        except NoVolume:
            same(self.case, (self.base, self.groups), ((), []))
            charter = self.some_charter()
            self.keep(lay(self.device, self.known(), charter), charter)
            self.count("lay")
            return
        fitting = self.is_beginning(state, self.sure)
        self.count("fewer" if max(fitting) < len(self.groups) else "all")
        same(self.case, look(self.device, self.known()), (volume, state, many))
        same(self.case, standing(self.device, self.known()), volume)
        if self.chance.random() < 0.3:
            self.strike_some()
            same(self.case, look(self.device, self.known()), (volume, state, many))
        charter = self.some_charter()
        try:
            self.keep(opened(self.device, self.known(), charter), charter)
        except TooGreat:
            return
        self.count("open")


def applied_all(state, groups):
    """The state behind all groups."""
    for group in groups:
        state = applied(state, group)
    return state


class Promises(unittest.TestCase):
    def test_crashes_losses_and_lies_at_any_time(self):
        seen = {}
        for seed in range(120):
            world = World(self, seed)
            for _ in range(250):
                world.run()
            for word, many in world.seen.items():
                seen[word] = seen.get(word, 0) + many
        for word in ("fault", "crash", "answer", "group", "move", "lay", "open", "strike", "all", "fewer"):
            self.assertGreater(seen.get(word, 0), 30, (word, seen))


class Progress(unittest.TestCase):
    def test_every_begun_batch_becomes_safe(self):
        """[18]: unless a tape is full, also without shelves that are lost, as long as the others are enough."""
        chance = random.Random(1)
        said = {"lost": 0, "whole": 0, "sure": 0, "stuck": 0}
        for _ in range(150):
            charter = some_charter(chance, POINTS, chance.choice((3, 4)), 3)
            (_, _, points), book = charter
            lost = [point for point in points if chance.random() < 0.3]
            rest = [shelf for shelf, point in enumerate(points) if point not in lost]
            enough = all(any(None not in (one[shelf][0], one[shelf][1], two[shelf][1]) for shelf in rest)
                         for one in book for two in book)
            device = Shelves(POINTS)
            move = Move(device, 0, charter, (("a", (1, 2)), ("b", ())))
            moment = chance.randint(0, 20)
            for _ in range(moment):
                move.write(chance.choice(points))
            for point in lost:
                move.lost(point)
                said["lost"] += 1
            write_all(move, points)
            if not enough:
                said["stuck"] += not move.whole()
                continue
            self.assertTrue(move.whole())
            said["whole"] += 1
            store = move.store()
            for number in range(3):
                store.do((("put", "c", (number,)),))
            store.flush()
            write_all(store, points)
            if max(len(device.tape(0, point)) for point in points) < 1024:
                same(self, (store.sure(), store.sure_state()), (3, store.state()))
                said["sure"] += 1
        self.assertGreater(min(said.values()), 10, said)

    def test_1024_cells(self):
        """Shelf 0, which one row may lose, writes 12 cells and 128 spare ones of each batch before shelf 1 follows."""
        charter = ((41, 12, (0, 1)), (((64, 64), FINE), ((None, None), FINE)))
        device = Shelves((0, 1))
        move = Move(device, 0, charter, ())
        write_all(move, (0,))
        write_all(move, (1,))
        store = move.store()
        lengths = []
        for number in range(9):
            lengths.append(len(device.tape(0, 0)))
            store.do((("put", "a", (number,)),))
            store.flush()
            write_all(store, (0,))
            write_all(store, (1,))
            same(self, store.sure(), number + 1)
        same(self, lengths, [140, 280, 420, 560, 700, 840, 980, 1024, 1024])
        store.do((("drop", "a"),))
        store.flush()
        same(self, (store.write(0), store.write(1), len(device.tape(0, 0))), (None, (10, 10), 1024))

    def test_if_all_tapes_are_full_nothing_becomes_safe(self):
        charter = ((41, 3, (0,)), (((64, 64),),))
        device = Shelves((0,))
        move = Move(device, 0, charter, ())
        write_all(move, (0,))
        store = move.store()
        for number in range(12):
            store.do((("put", "a", ()),))
            write_all(store, (0,))
        same(self, (len(device.tape(0, 0)), store.write(0)), (1024, None))
        same(self, (store.handed(), store.sure(), store.safe_many()), (12, 6, 31))


class ThrowingAway(unittest.TestCase):
    def test_strike_elder_changes_nothing_that_is_told(self):
        chance = random.Random(3)
        for _ in range(20):
            charter = some_charter(chance, POINTS, 3, 2)
            device, charters = Shelves(POINTS), {}
            store = None
            for volume in range(4):
                charters[volume] = charter
                move = Move(device, 0, charter, ()) if store is None else store.move(charter)
                write_all(move, charter[0][2])
                store = move.store()
                store.do((("put", "a" + str(volume), (volume,)),))
                store.flush()
                write_all(store, charter[0][2], chance.randint(0, 40))
            known = tuple(sorted(charters.items()))
            before = look(device, known)
            pairs = list(store.strike_elder())
            chance.shuffle(pairs)
            kept = [tape for tape in tapes_on(device) if tape[0] == 3]
            while pairs:
                device.strike(*pairs.pop())
                same(self, (look(device, known), store.strike_elder()), (before, tuple(sorted(pairs))))
            same(self, list(tapes_on(device)), kept)

    def test_closing_is_the_first_batch_of_an_empty_state(self):
        device = Shelves(POINTS)
        charter = ((41, 3, (0,)), ((FINE,),))
        move = lay(device, (), charter)
        write_all(move, (0,))
        same(self, device.tape(0, 0), tuple((0, number) for number in closing(3, 0)))


if __name__ == "__main__":
    unittest.main()
