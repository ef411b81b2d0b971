"""Moves ([15] to [15.3])."""

import random
import unittest

from firstsafe.errors import (BadBook, BadCharter, BadGround, BadPoint, BadState, BadVolume, Hopeless, Left, NotWhole, Old,
                              TooGreat)
from firstsafe.figures import image
from firstsafe.logbatches import closing, cut
from firstsafe.moves import Move
from firstsafe.shelves import Shelves
from firstsafe.store import Store
from tests.helper import (CHARTER, FINE, LOSE_ANY, NO_NUMBERS, NO_TUPLES, PlainVolume, refuses, same, some_charter, some_state,
                          state_with, tapes_on, write_all)

POINTS = (0, 1, 2)
GROUND = (41, 3, POINTS)
NOTHING = ((FINE,) * 3,)
PLAIN = (GROUND, NOTHING)
STATE = (("a", (5, 6)), ("b", (7,)), ("c", ()))


def asks(move):
    """Every method of a Move, with arguments that are wrong where there are any."""
    return ((move.volume,), (move.charter,), (move.write, None), (move.lost, 99), (move.safe_many,), (move.whole,),
            (move.move, None), (move.store,))


def is_left(case, asked):
    """All methods raise Left(0), ahead of their own refusals."""
    for call, *arguments in asked:
        refuses(case, Left, 0, call, *arguments)


def plain_move(charter, state):
    """The plain volume of a Move, before it begins its closing batch."""
    return PlainVolume(charter, cut(charter[0][1], 0, image(state)))


def begin_closing(plain, images):
    """Begins the closing batch as soon as all image batches are safe."""
    if len(plain.batches) == images and all(plain.is_safe(b) for b in range(images)):
        plain.batches.append(closing(plain.ground[1], images))


class Making(unittest.TestCase):
    def test_what_it_keeps(self):
        move = Move(Shelves((2, 1, 0, 7)), 5, CHARTER, STATE)
        same(self, (move.volume(), move.charter(), move.safe_many(), move.whole()), (5, CHARTER, 0, False))

    def test_errors_in_order(self):
        device = Shelves(POINTS + (41,))
        device.append(4, 0, 0, (0, 0))
        for volume in NO_NUMBERS + (None, -1):
            refuses(self, BadVolume, volume, Move, device, volume, None, None)
        for charter, error, what in (
                (None, BadCharter, 0), ((GROUND,), BadCharter, 0), ((None, None), BadGround, -1),
                (((41, 3, (0, 42)), None), BadGround, 2), ((GROUND, ((FINE,),)), BadBook, 0),
                (((37, 3, (9,)), ((FINE,),)), BadCharter, 1), (((41, 2, (9,)), ((FINE,),)), BadCharter, 2),
                (((41, 3, (9,)), (((None, 0),),)), Hopeless, 0)):
            refuses(self, error, what, Move, device, 0, charter, None)
        refuses(self, BadPoint, 9, Move, device, 0, ((41, 3, (0, 9, 8)), NOTHING), None)
        for state in NO_TUPLES + ((None,), (("b", ()), ("a", ())), (("a", (41,)),), ("a", ())):
            refuses(self, BadState, 0, Move, device, 0, CHARTER, state)
        great = (("a", (0,) * 38), ("b", ()))
        same(self, len(image(great)), 44)
        refuses(self, TooGreat, 44, Move, device, 0, CHARTER, great)
        for volume in range(5):
            refuses(self, Old, volume, Move, device, volume, CHARTER, ())
        same(self, Move(device, 5, CHARTER, ()).volume(), 5)

    def test_the_state_is_one_for_the_prime_of_the_charter(self):
        device = Shelves(POINTS)
        refuses(self, BadState, 0, Move, device, 0, CHARTER, (("a", (41,)),))
        Move(device, 0, ((43, 3, POINTS), NOTHING), (("a", (41,)),))

    def test_states_of_40_times_k_less_2_figures_and_of_one_more(self):
        for k in (3, 4, 12):
            most, charter = 40 * (k - 2), ((41, k, POINTS), NOTHING)
            move = Move(Shelves(POINTS), 0, charter, state_with(most))
            write_all(move, POINTS)
            same(self, (move.safe_many(), move.whole()), (41, True))
            refuses(self, TooGreat, most + 1, Move, Shelves(POINTS), 0, charter, state_with(most + 1))

    def test_a_refused_move_leaves_nothing(self):
        device = Shelves(POINTS)
        move = Move(device, 0, CHARTER, STATE)
        move.write(0)
        refuses(self, Old, 0, Move, device, 0, CHARTER, ())
        refuses(self, BadState, 0, Move, device, 1, CHARTER, None)
        refuses(self, BadVolume, -1, Move, device, -1, CHARTER, ())
        refuses(self, BadCharter, 3, move.move, ((43, 3, POINTS), LOSE_ANY))
        before = tapes_on(device)
        same(self, (move.volume(), move.safe_many(), move.whole()), (0, 0, False))
        same(self, tapes_on(device), before)
        same(self, move.write(0), (0, 1))

    def test_a_new_move_leaves_those_that_were_made_before(self):
        device, other = Shelves(POINTS), Shelves(POINTS)
        one, apart = Move(device, 0, CHARTER, STATE), Move(other, 0, CHARTER, STATE)
        two = Move(device, 0, CHARTER, ())
        is_left(self, asks(one))
        same(self, (two.volume(), apart.volume()), (0, 0))
        three = Move(device, 7, CHARTER, ())
        is_left(self, asks(one) + asks(two))
        same(self, three.volume(), 7)

    def test_nothing_is_written_except_by_write(self):
        device = Shelves(POINTS)
        move = Move(device, 0, CHARTER, STATE)
        (move.volume(), move.charter(), move.safe_many(), move.whole(), move.lost(1))
        refuses(self, NotWhole, 0, move.store)
        second = move.move(CHARTER)
        same(self, (device.volumes(), second.volume()), ((), 0))


class Writing(unittest.TestCase):
    def test_beside_the_words_with_shelves_at_unlike_paces(self):
        chance = random.Random(1)
        seen = {"spare": 0, "nothing": 0, "cell": 0, "whole": 0}
        for _ in range(60):
            k = chance.choice((3, 3, 4))
            charter = some_charter(chance, (0, 1, 2, 41), k, 3)
            state = some_state(chance, 41, 2)
            points = charter[0][2]
            device = Shelves((41, 2, 1, 0))
            if len(image(state)) > 40 * (k - 2):
                continue
            move, plain = Move(device, 3, charter, state), plain_move(charter, state)
            images = len(plain.batches)
            paces = [chance.choice((0, 1, 1, 5)) for _ in points]
            paces[chance.randrange(len(paces))] = 3
            for _ in range(120):
                begin_closing(plain, images)
                point = chance.choices(points, paces)[0]
                known = plain.tapes[point]
                wanted = plain.write(point)
                same(self, move.write(point), wanted)
                same(self, device.tape(3, point), tuple(known))
                seen["nothing" if wanted is None else "cell"] += 1
                if wanted is not None and [b for b, _ in known].count(wanted[0]) > k:
                    seen["spare"] += 1
            same(self, move.safe_many(), plain.safe_many())
            same(self, move.whole(), plain.is_safe(images))
            seen["whole"] += move.whole()
            same(self, device.volumes(), (3,) if any(plain.tapes.values()) else ())
        self.assertGreater(min(seen.values()), 15)

    def test_the_closing_batch_is_begun_as_soon_as_the_image_is_safe(self):
        device = Shelves(POINTS)
        move = Move(device, 0, PLAIN, (("a", ()),))
        got = [move.write(0) for _ in range(9)]
        same(self, [b for b, _ in got], [0] * 3 + [1] * 3 + [2] * 3)
        same(self, (move.safe_many(), move.whole()), (3, False))
        same(self, [move.write(1), move.write(2), move.write(1)], [(3, 4), (3, 7), (3, 3)])
        same(self, (move.safe_many(), move.whole()), (4, True))

    def test_an_image_batch_may_become_safe_late(self):
        """The closing batch is not begun while one image batch is not safe, whatever its number."""
        move = Move(Shelves(POINTS), 0, (GROUND, (((1, 0), FINE, FINE),)), (("a", ()),))
        got = [move.write(0) for _ in range(10)]
        same(self, [b for b, _ in got], [0] * 3 + [1] * 3 + [2] * 3 + [2])
        same(self, move.safe_many(), 3)
        same(self, move.write(0)[0], 3)

    def test_no_image_batches(self):
        move = Move(Shelves(POINTS), 0, PLAIN, ())
        same(self, (move.whole(), move.safe_many()), (False, 0))
        same(self, [move.write(point) for point in (0, 1, 2, 0)], [(0, 1), (0, 1), (0, 1), None])
        same(self, (move.whole(), move.safe_many()), (True, 1))

    def test_spare_cells(self):
        for fates, wanted in (((FINE, FINE), 0), (((None, 0), FINE), 0), (((None, None), FINE), 0), (((2, 3), FINE), 5),
                              (((None, 4), (3, None)), 7), (((64, 0), (0, 64)), 128), (((64, 64), (1, 1)), 128)):
            book = tuple((fate, FINE, FINE) for fate in fates) + ((FINE, FINE, FINE),)
            device = Shelves(POINTS)
            move = Move(device, 0, (GROUND, book), ())
            move.lost(1)
            move.lost(2)
            # Shelf 0 alone: the closing batch has k cells there, and then spare ones as long as it is not safe.
            got = [move.write(0) for _ in range(200)]
            cells = [cell for cell in got if cell is not None]
            same(self, cells[:3], [(0, 1), (0, 0), (0, 0)])
            same(self, cells[3:], [(0, 0)] * len(cells[3:]))
            same(self, got[len(cells):], [None] * (200 - len(cells)))
            finite = all(None not in fate for fate in fates)
            same(self, move.whole(), finite)
            if not finite:
                same(self, len(cells), 3 + wanted)
            else:
                self.assertLessEqual(len(cells), 3 + wanted)

    def test_a_spare_cell_is_one_of_the_least_batch_that_is_not_safe(self):
        book = (((None, 0), FINE, FINE), ((3, 0), FINE, FINE))
        device = Shelves(POINTS)
        move = Move(device, 0, (GROUND, book), (("a", ()),))
        got = [move.write(0) for _ in range(14)]
        same(self, got, [(0, 0), (0, 1), (0, 1), (1, 0), (1, 1), (1, 0), (2, 0), (2, 1), (2, 0), (0, 0), (0, 0), (0, 0), None, None])
        same(self, [move.write(1) for _ in range(3)], [(0, 2), (0, 3), (0, 1)])
        # Batch 0 is safe now; the three spare cells behind batch 2 are there already.
        same(self, (move.safe_many(), move.write(0)), (1, None))
        same(self, [move.write(1) for _ in range(3)], [(1, 1), (1, 1), (1, 0)])
        same(self, [move.write(1) for _ in range(3)], [(2, 1), (2, 1), (2, 0)])
        same(self, (move.safe_many(), move.write(0)), (3, (3, 1)))

    def test_at_most_748_cells(self):
        charter = ((41, 12, POINTS), (((64, 64),) * 3, ((None, None), FINE, FINE)))
        state = state_with(400)
        device = Shelves(POINTS)
        move = Move(device, 0, charter, state)
        got = [move.write(0) for _ in range(800)]
        # Shelf 0 alone makes nothing safe, so the closing batch is not begun.
        same(self, (len(device.tape(0, 0)), got[608:]), (480 + 128, [None] * 192))
        move.lost(2)
        write_all(move, POINTS)
        same(self, (move.whole(), len(device.tape(0, 0)) <= 748, len(device.tape(0, 1)) <= 748), (True, True, True))

    def test_748_cells(self):
        """Shelf 0 alone: 40 image batches with spare cells, and the closing batch with spare ones."""
        charter = ((41, 12, POINTS), (((64, 64), FINE, FINE), ((None, None), FINE, FINE)))
        state = state_with(400)
        device = Shelves(POINTS)
        move = Move(device, 0, charter, state)
        write_all(move, (0,))
        write_all(move, (1,), 480)
        same(self, (move.safe_many(), move.whole()), (40, False))
        write_all(move, (0,))
        same(self, (len(device.tape(0, 0)), move.whole()), (748, False))
        write_all(move, POINTS)
        same(self, (len(device.tape(0, 0)), move.whole()), (748, True))

    def test_errors(self):
        move = Move(Shelves((0, 1, 2, 7)), 0, CHARTER, ())
        for point in NO_NUMBERS + (None, 7, 3, -1, 41):
            refuses(self, BadPoint, point, move.write, point)
            refuses(self, BadPoint, point, move.lost, point)
        same(self, move.write(0), (0, 1))


class LeftAlone(unittest.TestCase):
    def test_a_shelf_for_which_lost_was_called(self):
        device = Shelves(POINTS)
        move = Move(device, 0, PLAIN, STATE)
        move.write(0)
        same(self, move.lost(0), None)
        same(self, [move.write(0) for _ in range(3)], [None] * 3)
        same(self, len(device.tape(0, 0)), 1)
        # Its cell goes on counting: two more are enough.
        move.write(1)
        same(self, move.safe_many(), 0)
        move.write(1)
        same(self, move.safe_many(), 1)
        same(self, move.lost(0), None)

    def test_what_was_safe_stays_safe(self):
        device = Shelves(POINTS)
        move = Move(device, 0, PLAIN, ())
        for point in POINTS:
            move.write(point)
        for point in POINTS:
            move.lost(point)
        same(self, (move.safe_many(), move.whole()), (1, True))
        same(self, type(move.store()), Store)

    def test_a_tape_that_is_other_than_what_was_written(self):
        def fewer(tape):
            return tape[:-1]

        def more(tape):
            return tape + ((0, 0),)

        def other_number(tape):
            return tape[:-1] + ((tape[-1][0], tape[-1][1] + 41),)

        def other_batch(tape):
            return ((63, tape[0][1]),) + tape[1:]

        for change in (fewer, more, other_number, other_batch, lambda tape: ()):
            device = Shelves(POINTS)
            move = Move(device, 0, CHARTER, STATE)
            move.write(0)
            move.write(0)
            tape = device.tape(0, 0)
            device.fall(0, 0, change(tape))
            same(self, move.write(0), None)
            same(self, device.tape(0, 0), change(tape))
            device.fall(0, 0, tape)
            same(self, [move.write(0), device.tape(0, 0)], [None, tape])
            same(self, move.write(1), (0, 2))

    def test_only_what_a_write_finds_counts(self):
        device = Shelves(POINTS)
        move = Move(device, 0, CHARTER, STATE)
        move.write(0)
        tape = device.tape(0, 0)
        device.fall(0, 0, ())
        move.write(1)
        move.safe_many()
        device.fall(0, 0, tape)
        same(self, move.write(0), (0, 1))
        device.strike(0, 0)
        same(self, (move.write(0), move.write(0), device.tape(0, 0)), (None, None, ()))

    def test_a_write_that_would_write_nothing_compares_too(self):
        device = Shelves(POINTS)
        move = Move(device, 0, (GROUND, LOSE_ANY), ())
        same(self, [move.write(0) for _ in range(4)], [(0, 1), (0, 0), (0, 0), None])
        tape = device.tape(0, 0)
        device.fall(0, 0, tape + ((5, 5),))
        same(self, move.write(0), None)
        device.fall(0, 0, tape)
        for point in (1, 2, 1, 2, 1, 2):
            move.write(point)
        store = move.store()
        store.do((("put", "a", ()),))
        same(self, [store.write(0), store.write(1)], [None, (1, 4)])

    def test_a_tape_that_lies_before_the_first_write(self):
        device = Shelves(POINTS)
        move = Move(device, 0, CHARTER, STATE)
        device.fall(0, 2, ((0, 1),))
        same(self, [move.write(2), move.write(0)], [None, (0, 0)])

    def test_left_alone_in_one_volume_only(self):
        device = Shelves(POINTS)
        move = Move(device, 0, CHARTER, STATE)
        move.write(0)
        move.lost(0)
        second = move.move(CHARTER)
        same(self, [second.volume(), second.write(0)], [1, (0, 0)])

    def test_tapes_of_other_volumes_do_not_matter(self):
        device = Shelves(POINTS)
        device.fall(3, 0, ((1, 1),))
        move = Move(device, 4, CHARTER, STATE)
        device.fall(3, 0, ())
        device.fall(9, 0, ((1, 1),))
        same(self, move.write(0), (0, 0))


class Storing(unittest.TestCase):
    def test_ahead_of_the_moment_and_at_it(self):
        device = Shelves(POINTS)
        move = Move(device, 0, CHARTER, ())
        for point in (0, 1, 2, 0):
            refuses(self, NotWhole, 0, move.store)
            move.write(point)
        refuses(self, NotWhole, 0, move.store)
        same(self, move.whole(), False)
        move.write(1)
        same(self, move.whole(), True)
        store = move.store()
        same(self, (type(store), store.volume(), store.charter(), store.state()), (Store, 0, CHARTER, ()))
        is_left(self, asks(move))
        same(self, store.safe_many(), 1)

    def test_not_whole_tells_how_many_are_safe(self):
        move = Move(Shelves(POINTS), 0, PLAIN, (("a", ()),))
        for wanted in range(4):
            refuses(self, NotWhole, wanted, move.store)
            for point in POINTS:
                move.write(point)
        same(self, move.store().state(), (("a", ()),))

    def test_the_store_leaves_the_same_shelves_alone(self):
        device = Shelves(POINTS)
        move = Move(device, 0, PLAIN, ())
        move.write(0)
        move.lost(0)
        move.write(1)
        device.strike(0, 1)
        move.write(1)
        same(self, [move.write(2), move.whole()], [(0, 1), True])
        device.fall(0, 1, ((0, 1),))
        store = move.store()
        store.do((("put", "a", ()),))
        same(self, [store.write(0), store.write(1), store.write(2)], [None, None, (1, 8)])

    def test_store_itself_looks_at_no_tape(self):
        device = Shelves(POINTS)
        move = Move(device, 0, PLAIN, ())
        write_all(move, POINTS)
        tape = device.tape(0, 0)
        device.strike(0, 0)
        store = move.store()
        device.fall(0, 0, tape)
        store.do((("put", "a", ()),))
        same(self, store.write(0), (1, 2))


class MovingOn(unittest.TestCase):
    def test_the_same_state_in_a_new_volume(self):
        device = Shelves((0, 1, 2, 9))
        move = Move(device, 6, CHARTER, STATE)
        write_all(move, POINTS, 2)
        charter = ((41, 4, (9, 0)), ((FINE, FINE),))
        second = move.move(charter)
        is_left(self, asks(move))
        same(self, (second.volume(), second.charter(), second.safe_many()), (7, charter, 0))
        write_all(second, (9, 0))
        store = second.store()
        same(self, (store.state(), store.volume()), (STATE, 7))

    def test_the_number_of_the_new_volume(self):
        device = Shelves(POINTS)
        move = Move(device, 6, CHARTER, STATE).move(CHARTER)
        same(self, move.volume(), 0)
        device.fall(3, 1, ((0, 0),))
        move = move.move(CHARTER)
        same(self, move.volume(), 4)
        move.write(0)
        device.strike(3, 1)
        same(self, move.move(CHARTER).volume(), 5)

    def test_errors_in_order(self):
        device = Shelves(POINTS)
        move = Move(device, 0, ((41, 4, POINTS), NOTHING), (("a", (0,) * 40), ("b", (0,) * 30)))
        for charter, error, what in (
                (None, BadCharter, 0), ((None, None), BadGround, -1), ((GROUND, None), BadBook, -1),
                (((37, 3, (9,)), ((FINE,),)), BadCharter, 1), (((43, 2, (9,)), ((FINE,),)), BadCharter, 2),
                (((43, 3, (9,)), (((None, 0),),)), Hopeless, 0), (((43, 3, (9,)), ((FINE,),)), BadCharter, 3),
                (((41, 3, (0, 9, 8)), NOTHING), BadPoint, 9), (CHARTER, TooGreat, 76)):
            refuses(self, error, what, move.move, charter)
        same(self, move.write(0), (0, 0))

    def test_by_name(self):
        device = Shelves(points=POINTS)
        move = Move(state=(), charter=CHARTER, volume=2, device=device)
        same(self, move.write(point=0), (0, 1))
        same(self, move.lost(point=0), None)
        same(self, move.move(charter=CHARTER).volume(), 3)


class Example(unittest.TestCase):
    def test_18_2(self):
        from firstsafe.groups import group_figures
        from firstsafe.opening import lay
        book = (((0, 0),) * 3, ((None, 0), FINE, FINE), (FINE, (None, 0), FINE), (FINE, FINE, (None, 0)))
        charter = ((41, 3, (0, 1, 2)), book)
        device = Shelves((0, 1, 2))
        move = lay(device, (), charter)
        for point in (0, 1, 2, 0):
            same(self, move.write(point)[0], 0)
            same(self, move.whole(), False)
        same(self, [len(device.tape(0, point)) for point in POINTS], [2, 1, 1])
        move.write(1)
        same(self, [len(device.tape(0, point)) for point in POINTS], [2, 2, 1])
        same(self, move.whole(), True)
        same(self, [cell[0] for point in POINTS for cell in device.tape(0, point)], [0] * 5)
        same(self, device.tape(0, 0), ((0, 1), (0, 0)))
        same(self, group_figures((("drop", "q"),)), (1, 2, 1, 16))
        store = move.store()
        store.do((("put", "q", ()),))
        store.flush()
        same(self, store.do((("drop", "q"),)), 1)
        write_all(store, POINTS)
        same(self, store.safe_many(), 1 + 5 + 4)


if __name__ == "__main__":
    unittest.main()
