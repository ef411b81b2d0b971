"""Writing the cells of one volume ([15.1])."""

from firstsafe.errors import BadPoint
from firstsafe.kinds import is_number
from firstsafe.limits import MOST_BATCHES, MOST_CELLS
from firstsafe.rows import cell
from firstsafe.tally import Tally


def greatest_number(bounds):
    """The greatest bound that is a number, 0 if there is none."""
    return max([bound for bound in bounds if bound is not None], default=0)


def most_spare(book, shelf):
    """How many spare cells the shelf may need, whatever two rows of the book befall it."""
    return greatest_number([row[shelf][0] for row in book]) + greatest_number([row[shelf][1] for row in book])


class Pen:
    """Writes the begun batches of a volume. A Move has a pen, and the Store made of the Move goes on with it."""

    def __init__(self, device, volume, charter):
        ground, book = charter
        self.device = device
        self.turn = device.new_turn()
        self.volume_number = volume
        self.volume_charter = charter
        self.batches = []
        self.tally = Tally(ground, book, False)
        self.alone = [False for _ in ground[2]]
        self.cells = [[] for _ in ground[2]]
        self.counts = [[0] * MOST_BATCHES for _ in ground[2]]
        # For each shelf and batch, how long the tape was when the shelf had written k cells of the batch.
        self.ends = [[0] * MOST_BATCHES for _ in ground[2]]
        self.spare = [most_spare(book, shelf) for shelf in range(len(ground[2]))]

    def left(self):
        """True if another Move has been made on the device since."""
        return self.device.moves != self.turn

    def begin(self, batch):
        """Begins the next batch."""
        self.batches.append(batch)

    def safe_many(self):
        """The least number that is not a safe batch."""
        many = 0
        while many < MOST_BATCHES and self.tally.reports_safe(many):
            many += 1
        return many

    def shelf_at(self, point):
        """The shelf of the ground with this point, or BadPoint."""
        points = self.volume_charter[0][2]
        if not is_number(point) or point not in points:
            raise BadPoint(point)
        return points.index(point)

    def lost(self, point):
        """Leaves the shelf alone from now on."""
        self.alone[self.shelf_at(point)] = True

    def write(self, point):
        """Lets the shelf write its next cell; the cell, or None if it writes nothing."""
        shelf = self.shelf_at(point)
        written = self.cells[shelf]
        if self.device.tape(self.volume_number, point) != tuple(written):
            self.alone[shelf] = True
        if self.alone[shelf] or len(written) == MOST_CELLS:
            return None
        b = self.next_batch(shelf)
        if b is None:
            return None
        return self.write_cell(shelf, point, b)

    def next_batch(self, shelf):
        """The batch of which the shelf writes its next cell, None if there is nothing to be written."""
        ground, _ = self.volume_charter
        unsafe = [b for b in range(len(self.batches)) if not self.tally.reports_safe(b)]
        for b in unsafe:
            if self.counts[shelf][b] < ground[1]:
                return b
        if unsafe and len(self.cells[shelf]) - max([self.ends[shelf][b] for b in unsafe]) < self.spare[shelf]:
            return unsafe[0]
        return None

    def write_cell(self, shelf, point, b):
        """Writes the next cell of batch b on the shelf; the cell."""
        ground, _ = self.volume_charter
        made = (b, cell(ground, self.batches[b], shelf, self.counts[shelf][b]))
        self.device.append(self.volume_number, point, len(self.cells[shelf]), made)
        self.cells[shelf].append(made)
        self.counts[shelf][b] += 1
        if self.counts[shelf][b] == ground[1]:
            self.ends[shelf][b] = len(self.cells[shelf])
        self.tally.write(shelf, b)
        return made

    def elder_tapes(self):
        """All pairs (volume, point) of tapes of lower volumes that have cells, ascending."""
        return tuple([pair for pair in self.device.held() if pair[0] < self.volume_number])
