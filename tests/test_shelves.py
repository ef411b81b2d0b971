"""The device ([13] to [13.2])."""

import random
import unittest

from firstsafe.errors import BadCell, BadGround, BadPoint, BadPoints, BadTape, BadVolume, Long, NotAt
from firstsafe.shelves import Shelves
from tests.helper import NO_NUMBERS, NO_TUPLES, nested, refuses, same, tapes_on

BAD_VOLUMES = NO_NUMBERS + (None, -1, -(10 ** 40))
BAD_POINTS = NO_NUMBERS + (None, 1, 8, -1, 65521, 10 ** 40)
BAD_CELLS = (None, True, 0, "00", (), (0,), (0, 0, 0), [0, 0], (64, 0), (-1, 0), (0, 65521), (0, -1), (True, 0), (0, False),
             ("0", 0), (0, None), ((0, 0),), (10 ** 40, 0), (0, 10 ** 40), nested(19))


def some_device():
    """A device with some tapes, one of them full."""
    device = Shelves((7, 0, 41))
    device.fall(0, 7, ((1, 2), (3, 4)))
    device.fall(5, 41, ((63, 65520),) * 1024)
    return device


class Points(unittest.TestCase):
    def test_1_to_16_points_as_given(self):
        for points in ((0,), (65521,), (5, 3, 9), (65521, 0), tuple(range(16)), tuple(range(65521, 65505, -1))):
            same(self, Shelves(points).points(), points)
            same(self, Shelves(points).volumes(), ())

    def test_no_tuple_of_1_to_16(self):
        for points in NO_TUPLES + ((), [0, 1], tuple(range(17)), (0,) * 17, (None,) * 17, ("a",) * 20):
            refuses(self, BadPoints, -1, Shelves, points)

    def test_the_first_bad_point(self):
        for wrong in NO_NUMBERS + (None, -1, 65522, 10 ** 40):
            refuses(self, BadPoints, 0, Shelves, (wrong,))
            refuses(self, BadPoints, 1, Shelves, (0, wrong, 0))
            refuses(self, BadPoints, 15, Shelves, tuple(range(15)) + (wrong,))

    def test_equal_points(self):
        refuses(self, BadPoints, 1, Shelves, (3, 3))
        refuses(self, BadPoints, 15, Shelves, tuple(range(15)) + (0,))
        refuses(self, BadPoints, 2, Shelves, (3, 4, 4, 3, None))
        refuses(self, BadPoints, 1, Shelves, (3, None, 3))
        refuses(self, BadPoints, 3, Shelves, (1, 2, 0, True))


class Tapes(unittest.TestCase):
    def test_at_first_all_are_empty(self):
        device = Shelves((7, 0))
        for volume in (0, 1, 10 ** 40):
            same(self, (device.tape(volume, 7), device.tape(volume, 0)), ((), ()))

    def test_cells_are_written_behind_one_another(self):
        device = Shelves((7, 0))
        for at, cell in enumerate(((0, 0), (63, 65520), (0, 0))):
            same(self, device.append(2, 0, at, cell), None)
        same(self, device.tape(2, 0), ((0, 0), (63, 65520), (0, 0)))
        same(self, (device.tape(2, 7), device.tape(1, 0), device.tape(3, 0)), ((), (), ()))

    def test_a_tape_that_is_returned_stays_as_it_is(self):
        device = Shelves((7,))
        device.append(0, 7, 0, (1, 1))
        tape = device.tape(0, 7)
        device.append(0, 7, 1, (2, 2))
        device.strike(0, 7)
        same(self, tape, ((1, 1),))

    def test_the_1024th_and_the_1025th_cell(self):
        device = Shelves((7, 0))
        for at in range(1024):
            device.append(0, 7, at, (at % 64, at))
        refuses(self, Long, 1024, device.append, 0, 7, 1024, (0, 0))
        refuses(self, NotAt, 1024, device.append, 0, 7, 1023, (0, 0))
        refuses(self, NotAt, 1024, device.append, 0, 7, 1025, (0, 0))
        same(self, device.tape(0, 7), tuple((at % 64, at) for at in range(1024)))
        device.append(0, 0, 0, (0, 0))
        device.append(1, 7, 0, (0, 0))
        device.strike(0, 7)
        device.append(0, 7, 0, (9, 9))
        same(self, device.tape(0, 7), ((9, 9),))

    def test_append_in_the_order_of_its_errors(self):
        device = some_device()
        before = tapes_on(device)
        for volume in BAD_VOLUMES:
            refuses(self, BadVolume, volume, device.append, volume, None, None, None)
            refuses(self, BadVolume, volume, device.append, volume, 7, 2, (0, 0))
        for point in BAD_POINTS:
            refuses(self, BadPoint, point, device.append, 0, point, None, None)
            refuses(self, BadPoint, point, device.append, 0, point, 0, (0, 0))
        for cell in BAD_CELLS:
            refuses(self, BadCell, 0, device.append, 0, 7, None, cell)
            refuses(self, BadCell, 0, device.append, 0, 7, 2, cell)
            refuses(self, BadCell, 0, device.append, 5, 41, 1024, cell)
        for at in NO_NUMBERS + (None, -1, 1, 3, 10 ** 40):
            refuses(self, NotAt, 2, device.append, 0, 7, at, (0, 0))
            refuses(self, NotAt, 1024, device.append, 5, 41, at, (0, 0))
        refuses(self, NotAt, 0, device.append, 0, 0, False, (0, 0))
        refuses(self, Long, 1024, device.append, 5, 41, 1024, (0, 0))
        same(self, tapes_on(device), before)

    def test_true_and_false_are_no_lengths(self):
        device = Shelves((0,))
        refuses(self, NotAt, 0, device.append, 0, 0, False, (0, 0))
        device.append(0, 0, 0, (0, 0))
        refuses(self, NotAt, 1, device.append, 0, 0, True, (0, 0))
        device.append(0, 0, 1, (0, 0))
        same(self, device.tape(0, 0), ((0, 0), (0, 0)))

    def test_tape_in_the_order_of_its_errors(self):
        device = some_device()
        for volume in BAD_VOLUMES:
            refuses(self, BadVolume, volume, device.tape, volume, None)
        for point in BAD_POINTS:
            refuses(self, BadPoint, point, device.tape, 0, point)


class StrikeAndFall(unittest.TestCase):
    def test_strike_empties_one_tape(self):
        device = some_device()
        same(self, device.strike(0, 7), None)
        same(self, tapes_on(device), ((5, 41, ((63, 65520),) * 1024),))
        same(self, (device.strike(0, 7), device.strike(9, 0)), (None, None))
        same(self, tapes_on(device), ((5, 41, ((63, 65520),) * 1024),))

    def test_fall_puts_cells_in_the_place_of_a_tape(self):
        device = some_device()
        for cells in (((0, 0),), ((63, 65520), (1, 2), (1, 2)), ((7, 7),) * 1024, ()):
            same(self, device.fall(0, 7, cells), None)
            same(self, device.tape(0, 7), cells)
            same(self, device.fall(3, 0, cells), None)
            same(self, device.tape(3, 0), cells)
        same(self, tapes_on(device), ((5, 41, ((63, 65520),) * 1024),))

    def test_writing_goes_on_behind_what_fell(self):
        device = some_device()
        device.fall(0, 7, ((9, 9),))
        refuses(self, NotAt, 1, device.append, 0, 7, 2, (0, 0))
        device.append(0, 7, 1, (8, 8))
        same(self, device.tape(0, 7), ((9, 9), (8, 8)))

    def test_errors_in_order_and_nothing_is_changed(self):
        device = some_device()
        before = tapes_on(device)
        for volume in BAD_VOLUMES:
            refuses(self, BadVolume, volume, device.strike, volume, None)
            refuses(self, BadVolume, volume, device.fall, volume, None, None)
        for point in BAD_POINTS:
            refuses(self, BadPoint, point, device.strike, 0, point)
            refuses(self, BadPoint, point, device.fall, 0, point, None)
        for cells in NO_TUPLES + ([(0, 0)], (0, 0), ((0, 0),) * 1025) + tuple((cell,) for cell in BAD_CELLS) + tuple(
                ((0, 0), cell) for cell in BAD_CELLS):
            refuses(self, BadTape, -1, device.fall, 0, 7, cells)
        same(self, tapes_on(device), before)


class Volumes(unittest.TestCase):
    def test_a_volume_lies_if_some_shelf_has_a_cell_of_it(self):
        device = Shelves((7, 0, 41))
        device.append(10 ** 40, 0, 0, (1, 1))
        device.append(3, 41, 0, (1, 1))
        device.append(3, 7, 0, (1, 1))
        device.fall(0, 0, ((1, 1),))
        same(self, device.volumes(), (0, 3, 10 ** 40))
        device.strike(3, 7)
        same(self, device.volumes(), (0, 3, 10 ** 40))
        device.strike(3, 41)
        same(self, device.volumes(), (0, 10 ** 40))
        device.fall(0, 0, ())
        same(self, device.volumes(), (10 ** 40,))

    def test_looking_begins_no_volume(self):
        device = Shelves((7, 0))
        device.tape(3, 7)
        device.reading(4, (41, 3, (0, 7)))
        device.strike(5, 7)
        device.fall(6, 7, ())
        refuses(self, NotAt, 0, device.append, 7, 7, 1, (0, 0))
        same(self, device.volumes(), ())


class Readings(unittest.TestCase):
    def test_the_shelves_of_the_ground_in_its_order(self):
        device = some_device()
        device.append(0, 41, 0, (5, 6))
        same(self, device.reading(0, (41, 3, (0, 7, 41))), ((), ((1, 2), (3, 4)), ((5, 6),)))
        same(self, device.reading(0, (41, 3, (41, 7))), (((5, 6),), ((1, 2), (3, 4))))
        same(self, device.reading(0, (41, 1, (0,))), ((),))
        same(self, device.reading(1, (41, 3, (0, 7, 41))), ((), (), ()))

    def test_numbers_of_p_and_more(self):
        device = Shelves((0, 2))
        device.fall(0, 2, ((0, 4), (1, 5), (2, 6), (63, 65520), (4, 10)))
        same(self, device.reading(0, (5, 1, (2,))), (((0, 4), (1, 0), (2, 1), (63, 0), (4, 0)),))
        same(self, device.reading(0, (2, 1, (0, 2))), ((), ((0, 0), (1, 1), (2, 0), (63, 0), (4, 0))))
        same(self, device.reading(0, (65521, 1, (2,))), (((0, 4), (1, 5), (2, 6), (63, 65520), (4, 10)),))
        same(self, device.tape(0, 2), ((0, 4), (1, 5), (2, 6), (63, 65520), (4, 10)))

    def test_errors_in_order(self):
        device = some_device()
        for volume in BAD_VOLUMES:
            refuses(self, BadVolume, volume, device.reading, volume, None)
        for ground, what in ((None, -1), ((41, 3), -1), ((4, 3, (8,)), 0), ((41, 13, (8,)), 1), ((41, 3, (8, 8)), 2)):
            refuses(self, BadGround, what, device.reading, 0, ground)
        refuses(self, BadPoint, 8, device.reading, 0, (41, 3, (0, 8, 41, 9)))
        refuses(self, BadPoint, 1, device.reading, 99, (41, 3, (1,)))

    def test_by_chance(self):
        chance = random.Random(1)
        points = tuple(chance.sample(range(42), 16))
        device, kept = Shelves(points), {}
        for _ in range(800):
            volume, point = chance.randrange(3), chance.choice(points[:5])
            tape = kept.get((volume, point), [])
            cell = (chance.randrange(64), chance.randrange(100))
            deed = chance.random()
            if deed < 0.8:
                device.append(volume, point, len(tape), cell)
                tape = tape + [cell]
            elif deed < 0.9:
                device.strike(volume, point)
                tape = []
            else:
                device.fall(volume, point, (cell, cell))
                tape = [cell, cell]
            kept[volume, point] = tape
            same(self, device.tape(volume, point), tuple(tape))
            same(self, device.volumes(), tuple(sorted({volume for (volume, _), cells in kept.items() if cells})))
            ground = (41, 3, tuple(chance.sample(points, 4)))
            same(self, device.reading(volume, ground), tuple(
                tuple((b, number % 41) for b, number in kept.get((volume, point), [])) for point in ground[2]))

    def test_two_devices_are_apart(self):
        one, two = Shelves((0,)), Shelves((0,))
        one.append(0, 0, 0, (1, 1))
        same(self, (one.volumes(), two.volumes()), ((0,), ()))

    def test_by_name(self):
        device = Shelves(points=(0, 2))
        same(self, device.append(cell=(1, 2), at=0, point=2, volume=3), None)
        same(self, device.tape(point=2, volume=3), ((1, 2),))
        same(self, device.reading(ground=(41, 3, (2,)), volume=3), (((1, 2),),))
        same(self, device.fall(cells=((1, 3),), point=2, volume=3), None)
        same(self, device.strike(point=2, volume=3), None)
        same(self, device.volumes(), ())


if __name__ == "__main__":
    unittest.main()
