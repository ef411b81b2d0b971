"""Opening a device ([17] to [17.2])."""

import unittest

from firstsafe.deeds import applied
from firstsafe.errors import (BadBook, BadCharter, BadCharters, BadGround, BadPoint, Damaged, Hopeless, Left, NoCharter, NotWhole,
                              NoVolume, Old, TooGreat)
from firstsafe.figures import image
from firstsafe.groups import group_figures
from firstsafe.logbatches import closing, cut
from firstsafe.moves import Move
from firstsafe.opening import doubt, lay, look, opened, standing
from firstsafe.readers import read
from firstsafe.rows import row
from firstsafe.shelves import Shelves
from tests.helper import CHARTER, FINE, NO_TUPLES, refuses, same, state_with, tapes_on, whole_store, write_all

POINTS = (0, 1, 2)
GROUND = (41, 3, POINTS)
NOTHING = ((FINE,) * 3,)
PLAIN = (GROUND, NOTHING)
STATE = (("a", (5, 6)), ("b", ()))
ASKING = (standing, look, doubt)


def lay_batches(device, volume, charter, batches):
    """Puts whole rows of these batches on the shelves; None for a batch leaves it out."""
    ground = charter[0]
    for shelf, point in enumerate(ground[2]):
        device.fall(volume, point, tuple((b, number) for b, batch in enumerate(batches) if batch is not None
                                         for number in row(ground, batch, shelf, ground[1])))


def laid(batches, charter=PLAIN, volume=0):
    """A device with these batches in one volume, and the charters."""
    device = Shelves(POINTS)
    lay_batches(device, volume, charter, batches)
    return device, ((volume, charter),)


def logs(k, figures):
    """Log batches with the figures."""
    return cut(k, 2, figures)


def images(k, state):
    """Image batches of the state and the closing batch."""
    batches = cut(k, 0, image(state))
    return batches + (closing(k, len(batches)),)


class Complete(unittest.TestCase):
    def test_a_volume_with_its_closing_batch(self):
        for state in ((), STATE, state_with(40)):
            device, charters = laid(images(3, state))
            same(self, standing(device, charters), 0)
            same(self, look(device, charters), (0, state, 0))

    def test_volumes_that_are_not_complete(self):
        good = images(3, STATE)
        c = len(good) - 1
        for batches in ((), good[:-1], (None,) + good[1:], good[:3] + (None,) + good[4:], good[:-1] + (closing(3, c - 1),),
                        good[:-1] + (closing(3, c + 1),), good[:-1] + ((2, 1, 0),), (closing(3, 1),), (closing(3, 40),),
                        good[:2] + ((2, 1, 5),) + good[3:], good[:2] + ((0, 0, 0),) + good[3:], good[:2] + ((3, 1, 0),) + good[3:],
                        good[:-1] + ((1, c, 1),), good[:2] + (closing(3, 3),) + good[3:], ((0, 1, 7),) * 64):
            device, charters = laid(batches)
            for ask in ASKING:
                refuses(self, NoVolume, 0, ask, device, charters)
            refuses(self, NoVolume, 0, opened, device, charters, PLAIN)
            same(self, lay(device, charters, PLAIN).volume(), 1 if batches else 0)

    def test_the_least_closing_batch_that_fits(self):
        """Batch 0 closes an empty image; what looks like a closing batch behind it is a log batch that is none."""
        device, charters = laid((closing(3, 0), closing(3, 1)))
        same(self, standing(device, charters), 0)
        refuses(self, Damaged, 0, look, device, charters)

    def test_41_image_batches_are_no_image(self):
        device, charters = laid(((0, 1, 7),) * 41 + ((1, 41, 0),), ((43, 3, POINTS), NOTHING))
        refuses(self, NoVolume, 0, standing, device, charters)
        device, charters = laid(images(3, state_with(40)))
        same(self, standing(device, charters), 0)

    def test_told_means_told_by_the_book_of_the_charter(self):
        device, charters = laid(images(3, ()), CHARTER)
        same(self, standing(device, charters), 0)
        # Three cells tell the batch, whichever shelf was lost; two do not.
        device.strike(0, 1)
        device.strike(0, 2)
        same(self, standing(device, charters), 0)
        device.fall(0, 0, device.tape(0, 0)[:2])
        refuses(self, NoVolume, 0, standing, device, charters)
        # With a book in which the last cell may be wrong, three cells are not enough, either.
        device, _ = laid(images(3, ()))
        torn = ((0, (GROUND, (((0, 1), FINE, FINE), (FINE, (0, 1), FINE)))),)
        same(self, standing(device, torn), 0)
        device.strike(0, 1)
        device.strike(0, 2)
        refuses(self, NoVolume, 0, standing, device, torn)

    def test_what_no_row_allows_tells_nothing(self):
        device, charters = laid(images(3, ()))
        device.fall(0, 1, ((0, 2), (0, 0), (0, 0)))
        refuses(self, NoVolume, 0, standing, device, charters)

    def test_numbers_of_p_and_more_are_read_modulo_p(self):
        device, charters = laid(images(3, STATE))
        for point in POINTS:
            device.fall(0, point, tuple((b, number + 41) for b, number in device.tape(0, point)))
        same(self, look(device, charters), (0, STATE, 0))


class Standing(unittest.TestCase):
    def test_the_greatest_complete_volume(self):
        device = Shelves(POINTS + (9,))
        states = {0: (), 3: (("a", ()),), 7: (("b", ()),)}
        for volume, state in states.items():
            lay_batches(device, volume, PLAIN, images(3, state))
        lay_batches(device, 9, PLAIN, images(3, STATE)[:-1])
        device.fall(12, 9, ((0, 0),))
        charters = tuple((volume, PLAIN) for volume in (0, 3, 7, 9)) + ((12, ((41, 3, (9,)), ((FINE,),))),)
        same(self, (standing(device, charters), look(device, charters)), (7, (7, (("b", ()),), 0)))
        for point in POINTS:
            device.strike(7, point)
        same(self, look(device, charters), (3, (("a", ()),), 0))
        lay_batches(device, 9, PLAIN, images(3, STATE))
        same(self, look(device, charters), (9, STATE, 0))

    def test_charters_of_volumes_that_do_not_lie(self):
        device, _ = laid(images(3, STATE))
        other = ((43, 12, (7,)), ((FINE,),))
        charters = ((0, PLAIN), (1, other), (10 ** 40, other))
        same(self, look(device, charters), (0, STATE, 0))

    def test_missing_charters_and_points_from_the_greatest_volume_down(self):
        device = Shelves(POINTS + (9,))
        for volume in (2, 4, 6):
            lay_batches(device, volume, PLAIN, images(3, ())[:1] if volume == 4 else ((0, 1, 7),))
        elsewhere = ((41, 3, (0, 7, 8)), NOTHING)
        for charters, error, what in (
                ((), NoCharter, 6), (((2, PLAIN), (4, PLAIN)), NoCharter, 6), (((6, PLAIN),), NoCharter, 4),
                (((2, PLAIN), (6, PLAIN)), NoCharter, 4), (((4, PLAIN), (6, elsewhere)), BadPoint, 7),
                (((4, elsewhere), (6, PLAIN)), BadPoint, 7), (((6, elsewhere),), BadPoint, 7)):
            for ask in ASKING:
                refuses(self, error, what, ask, device, charters)
            refuses(self, error, what, opened, device, charters, PLAIN)
            refuses(self, error, what, lay, device, charters, PLAIN)
        # Volumes below the standing one are not read.
        for charters in (((4, PLAIN), (6, PLAIN)), ((2, elsewhere), (4, PLAIN), (6, PLAIN))):
            same(self, standing(device, charters), 4)

    def test_an_empty_device(self):
        for ask in ASKING:
            refuses(self, NoVolume, 0, ask, Shelves(POINTS), ())
            refuses(self, NoVolume, 0, ask, Shelves(POINTS), ((0, PLAIN),))


class Looking(unittest.TestCase):
    GROUPS = ((("put", "c", (9,)),), (("drop", "a"), ("swap", "b", "b")), (("move", "b", "z9"),))

    def test_groups_are_done_on_the_state(self):
        for k in (3, 5, 12):
            figures = sum(map(group_figures, self.GROUPS), ())
            charter = ((41, k, POINTS), NOTHING)
            device, charters = laid(images(k, STATE) + logs(k, figures), charter)
            wanted = STATE
            for group in self.GROUPS:
                wanted = applied(wanted, group)
            same(self, look(device, charters), (0, wanted, 3))

    def test_groups_that_are_cut(self):
        figures = sum(map(group_figures, self.GROUPS), ())
        ends = [len(group_figures(group)) for group in self.GROUPS]
        ends = [0, ends[0], ends[0] + ends[1], len(figures)]
        for end in range(len(figures) + 1):
            device, charters = laid(images(3, STATE) + logs(3, figures[:end]))
            many = max(n for n in range(4) if ends[n] <= end)
            wanted = STATE
            for group in self.GROUPS[:many]:
                wanted = applied(wanted, group)
            same(self, look(device, charters), (0, wanted, many))

    def test_batches_behind_one_that_is_not_told_do_not_count(self):
        figures = sum(map(group_figures, self.GROUPS), ())
        batches = images(12, STATE) + logs(12, figures)
        charter = ((41, 12, POINTS), NOTHING)
        device, charters = laid(batches[:3] + (None,) + batches[4:], charter)
        same(self, look(device, charters)[2], 1)
        # Not even if they are no log batches.
        device, charters = laid(batches[:3] + (None, (0,) * 12, (40,) * 12), charter)
        same(self, look(device, charters)[2], 1)

    def test_flushed_batches_use_fewer_figures(self):
        first = group_figures(self.GROUPS[0])
        device, charters = laid(images(12, STATE) + logs(12, first) + logs(12, group_figures(self.GROUPS[1])),
                                ((41, 12, POINTS), NOTHING))
        same(self, look(device, charters), (0, (("b", ()), ("c", (9,))), 2))

    def test_twice_the_same_and_nothing_is_written(self):
        device, charters = laid(images(3, STATE) + logs(3, (1, 2)))
        before = tapes_on(device)
        same(self, look(device, charters), look(device, charters))
        same(self, (standing(device, charters), doubt(device, charters)[0]), (0, 11))
        same(self, tapes_on(device), before)

    def test_looking_leaves_no_move(self):
        device, charters = laid(images(3, STATE))
        move = Move(device, 1, PLAIN, ())
        (look(device, charters), standing(device, charters), doubt(device, charters))
        same(self, move.write(0), (0, 1))
        refuses(self, NoCharter, 1, opened, device, charters, PLAIN)
        same(self, (move.write(0), move.write(1)), ((0, 0), (0, 1)))

    def test_it_does_not_matter_whether_the_state_has_too_many_figures(self):
        state = state_with(38)
        group = group_figures((("put", "zz", (1, 2)),))
        device, charters = laid(images(3, state) + logs(3, group))
        volume, found, many = look(device, charters)
        same(self, (volume, many, len(image(found))), (0, 1, 44))
        refuses(self, TooGreat, 44, opened, device, charters, PLAIN)
        same(self, opened(device, charters, ((41, 4, POINTS), NOTHING)).volume(), 1)


class Damages(unittest.TestCase):
    def test_each_reason(self):
        good = images(3, STATE)
        drop = group_figures((("drop", "b"),))
        for batches in (
                # The figures of the image are not exactly those of a state.
                ((0, 1, 7), closing(3, 1)), ((0, 1, 1), closing(3, 1)), images(3, STATE)[:-2] + (closing(3, len(good) - 2),),
                cut(3, 0, image((("b", ()), ("a", ())))) + (closing(3, 6),), cut(3, 0, (1, 0, 0, 1)) + (closing(3, 4),),
                cut(3, 0, (1, 36, 0)) + (closing(3, 3),),
                # The figures of the log cannot be those of groups, also in a group that is cut.
                good + logs(3, (0,)), good + logs(3, (9,)), good + logs(3, (1, 5)), good + logs(3, drop + (1, 1, 7)),
                good + logs(3, (1, 2, 1, 36)),
                # A group cannot be done.
                good + logs(3, drop + drop), good + logs(3, group_figures((("move", "a", "b"),))),
                good + logs(3, group_figures((("swap", "a", "c"),))),
                # A told batch that is no log batch.
                good + ((0, 1, 1),), good + (closing(3, 0),), good + ((3, 1, 1),), good + ((2, 0, 0),), good + logs(3, drop) + (
                    (0, 0, 0),), good + ((2, 2, 1),), good + (closing(3, len(good) - 1),)):
            device = Shelves(POINTS)
            lay_batches(device, 0, PLAIN, images(3, ()))
            lay_batches(device, 5, PLAIN, batches)
            charters = ((0, PLAIN), (5, PLAIN))
            same(self, standing(device, charters), 5)
            refuses(self, Damaged, 5, look, device, charters)
            refuses(self, Damaged, 5, opened, device, charters, PLAIN)
            refuses(self, Damaged, 5, opened, device, charters, ((43, 3, (33,)), ((FINE,),)))
            doubt(device, charters)
            refuses(self, Old, 0, lay, device, charters, PLAIN)

    def test_whole_groups_ahead_of_a_fault_do_not_save_it(self):
        device, charters = laid(images(3, STATE) + logs(3, group_figures((("drop", "b"),)) + (9,)))
        refuses(self, Damaged, 0, look, device, charters)


class Doubts(unittest.TestCase):
    def test_the_first_batch_behind_the_closing_one_that_is_not_told(self):
        figures = group_figures((("put", "c", (9,)),))
        for many in range(len(figures)):
            device, charters = laid(images(3, STATE) + logs(3, figures)[:many])
            b, answer = doubt(device, charters)
            same(self, (b, answer), (9 + many, read(GROUND, NOTHING, None, device.reading(0, GROUND), 9 + many)))
            same(self, answer[0], "open")

    def test_a_batch_of_which_some_cells_lie(self):
        device, charters = laid(images(3, ()))
        device.append(0, 1, 3, (1, 4))
        b, answer = doubt(device, charters)
        same(self, (b, answer[0], answer[1]), (1, "open", (None, None, None)))
        device.append(0, 0, 3, (1, 2))
        same(self, doubt(device, charters)[1][1], (2, None, None))
        device.append(0, 0, 4, (1, 1))
        same(self, doubt(device, charters)[0], 2)

    def test_all_up_to_63_are_told(self):
        batches = images(3, ()) + logs(3, group_figures((("put", "a", ()),)) * 13)
        device, charters = laid(batches[:63] + ((2, 1, 0),))
        same(self, doubt(device, charters), None)
        device, charters = laid(batches[:63])
        same(self, doubt(device, charters)[0], 63)
        device, charters = laid((closing(3, 0),) + ((0, 1, 0),) * 63)
        same(self, doubt(device, charters), None)


class Opening(unittest.TestCase):
    def test_a_move_of_what_look_finds(self):
        device = Shelves((0, 1, 2, 41))
        store = whole_store(device, CHARTER, STATE, 3)
        store.do((("put", "c", (1,)),))
        store.flush()
        write_all(store, POINTS)
        store.do((("drop", "a"),))
        store.flush()
        charter = ((41, 4, (41, 0)), ((FINE, FINE),))
        found = look(device, ((3, CHARTER),))
        same(self, found, (3, STATE + (("c", (1,)),), 1))
        move = opened(device, ((3, CHARTER),), charter)
        refuses(self, Left, 0, store.state)
        same(self, (move.volume(), move.charter(), move.safe_many()), (4, charter, 0))
        refuses(self, NotWhole, 0, move.store)
        write_all(move, (0, 41))
        same(self, move.store().state(), found[1])
        same(self, look(device, ((3, CHARTER), (4, charter))), (4, found[1], 0))

    def test_a_crash_meanwhile(self):
        device = Shelves(POINTS)
        whole_store(device, CHARTER, STATE)
        for times in range(5):
            charters = tuple((volume, CHARTER) for volume in range(times + 1))
            move = opened(device, charters, CHARTER)
            same(self, move.volume(), times + 1)
            write_all(move, POINTS, times + 1)
        move = opened(device, tuple((volume, CHARTER) for volume in range(6)), CHARTER)
        write_all(move, POINTS)
        same(self, move.store().state(), STATE)
        same(self, standing(device, tuple((volume, CHARTER) for volume in range(7))), 6)

    def test_errors_in_order(self):
        device = Shelves(POINTS + (9,))
        lay_batches(device, 1, PLAIN, images(3, STATE))
        wrong = ((None, BadCharter, 0), ((None, None), BadGround, -1), ((GROUND, None), BadBook, -1),
                 (((37, 3, (9,)), ((FINE,),)), BadCharter, 1), (((41, 2, (9,)), ((FINE,),)), BadCharter, 2),
                 (((43, 3, (9,)), (((None, 0),),)), Hopeless, 0))
        for call in (opened, lay):
            for charters in NO_TUPLES:
                refuses(self, BadCharters, -1, call, device, charters, None)
            refuses(self, BadCharters, 1, call, device, ((1, PLAIN), (1, PLAIN)), None)
            for charter, error, what in wrong:
                refuses(self, error, what, call, device, (), charter)
            refuses(self, NoCharter, 1, call, device, (), ((43, 3, (33,)), ((FINE,),)))
        for ask in ASKING:
            for charters in NO_TUPLES:
                refuses(self, BadCharters, -1, ask, device, charters)
            refuses(self, BadCharters, 0, ask, device, ((1, None),))
        charters = ((1, PLAIN),)
        refuses(self, NoVolume, 0, opened, Shelves(POINTS), charters, ((43, 3, (33,)), ((FINE,),)))
        refuses(self, BadCharter, 3, opened, device, charters, ((43, 3, (33,)), ((FINE,),)))
        refuses(self, BadPoint, 33, opened, device, charters, ((41, 3, (0, 33, 34)), NOTHING))
        refuses(self, Old, 0, lay, device, charters, ((43, 3, (33,)), ((FINE,),)))
        refuses(self, BadPoint, 33, lay, Shelves(POINTS), (), ((43, 3, (33,)), ((FINE,),)))

    def test_what_is_refused_leaves_no_move(self):
        device = Shelves(POINTS)
        store = whole_store(device, PLAIN, STATE)
        refuses(self, BadCharter, 3, opened, device, ((0, PLAIN),), ((43, 3, POINTS), NOTHING))
        refuses(self, Old, 0, lay, device, ((0, PLAIN),), PLAIN)
        refuses(self, NoCharter, 0, opened, device, (), PLAIN)
        same(self, store.state(), STATE)


class Laying(unittest.TestCase):
    def test_on_an_empty_device_nothing_is_read(self):
        move = lay(Shelves(POINTS), ((5, PLAIN),), CHARTER)
        same(self, (move.volume(), move.charter(), move.safe_many()), (0, CHARTER, 0))
        write_all(move, POINTS)
        same(self, move.store().state(), ())

    def test_volumes_that_are_not_complete_do_not_hinder(self):
        device, charters = laid(images(3, STATE)[:-1], PLAIN, 6)
        move = lay(device, charters, ((43, 5, (1,)), ((FINE,),)))
        same(self, move.volume(), 7)

    def test_by_name(self):
        device, charters = laid(images(3, STATE))
        same(self, standing(charters=charters, device=device), 0)
        same(self, look(charters=charters, device=device), (0, STATE, 0))
        same(self, doubt(charters=charters, device=device)[0], 9)
        same(self, opened(charter=PLAIN, charters=charters, device=device).volume(), 1)
        same(self, lay(charter=PLAIN, charters=(), device=Shelves(points=POINTS)).volume(), 0)


if __name__ == "__main__":
    unittest.main()
