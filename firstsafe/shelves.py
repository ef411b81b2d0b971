"""The device: what survives a crash ([13])."""

from firstsafe.errors import BadCell, BadPoint, BadPoints, BadTape, BadVolume, Long, NotAt
from firstsafe.grounds import made_ground
from firstsafe.kinds import is_number, number_between, unlike_tuple_fault
from firstsafe.limits import MOST_CELLS, MOST_POINTS, MOST_PRIME
from firstsafe.tapes import cell_fits, cells_fit


def is_point(thing):
    """True for a number from 0 to 65521."""
    return number_between(thing, 0, MOST_PRIME)


def made_volume(thing):
    """The number of a volume, or BadVolume."""
    if not is_number(thing) or thing < 0:
        raise BadVolume(thing)
    return thing


class Shelves:
    """Some shelves, which have one tape for each volume."""

    def __init__(self, points):
        fault = unlike_tuple_fault(points, 1, MOST_POINTS, is_point)
        if fault is not None:
            raise BadPoints(fault)
        self.shelf_points = points
        # A list of cells for each pair (volume, point) whose tape is not empty.
        self.written = {}
        # How many Moves have been made on this device; all but the last one have been left ([15]).
        self.moves = 0

    def points(self):
        """The points of the shelves, as given."""
        return self.shelf_points

    def check_tape(self, volume, point):
        """Raises what is wrong with the volume or the point, in this order."""
        made_volume(volume)
        self.check_points((point,))

    def check_points(self, wanted):
        """BadPoint for the first of the points that no shelf has."""
        for point in wanted:
            if not is_point(point) or point not in self.shelf_points:
                raise BadPoint(point)

    def tape(self, volume, point):
        """The cells of the tape."""
        self.check_tape(volume, point)
        return tuple(self.written.get((volume, point), ()))

    def append(self, volume, point, at, cell):
        """Writes a cell behind the tape, which must have `at` cells."""
        self.check_tape(volume, point)
        if not cell_fits(MOST_PRIME, cell):
            raise BadCell(0)
        length = len(self.written.get((volume, point), ()))
        if not is_number(at) or at != length:
            raise NotAt(length)
        if length == MOST_CELLS:
            raise Long(MOST_CELLS)
        self.written.setdefault((volume, point), []).append(cell)

    def strike(self, volume, point):
        """Throws the tape away."""
        self.fall(volume, point, ())

    def fall(self, volume, point, cells):
        """Puts the cells in the place of the tape."""
        self.check_tape(volume, point)
        if not cells_fit(MOST_PRIME, cells):
            raise BadTape(-1)
        if cells:
            self.written[(volume, point)] = list(cells)
        elif (volume, point) in self.written:
            del self.written[(volume, point)]

    def volumes(self):
        """The volumes that lie, ascending."""
        return tuple(sorted(set([volume for volume, _ in self.written])))

    def held(self):
        """The pairs (volume, point) of all tapes that have cells, ascending."""
        return tuple(sorted(list(self.written)))

    def next_volume(self):
        """The number of a new volume: one more than the greatest one that lies."""
        return max(self.volumes(), default=-1) + 1

    def new_turn(self):
        """Leaves the Moves that have been made so far; the number of the new one."""
        self.moves += 1
        return self.moves

    def reading(self, volume, ground):
        """The reading of the volume on the shelves of the ground; numbers of p and more give their remainders."""
        made_volume(volume)
        p, _, points = made_ground(ground)
        tapes = [self.tape(volume, point) for point in points]
        return tuple([tuple([(b, number % p) for b, number in cells]) for cells in tapes])
