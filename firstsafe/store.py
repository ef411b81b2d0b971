"""The store: a state of named rows, whose changes are kept as batches on shelves ([16])."""

from firstsafe.deeds import applied, made_group
from firstsafe.errors import Full, Left, NoName
from firstsafe.groups import group_figures
from firstsafe.limits import MOST_BATCHES
from firstsafe.logbatches import LOG, cut, image_figures


class Store:
    """Does groups of deeds and writes them behind the state of the Move that has made it."""

    def __init__(self, maker, pen, state):
        self.maker = maker
        self.pen = pen
        # The state at first and behind each group, and for each group the batch with its last figure.
        self.states = [state]
        self.lasts = []
        # The figures of the open batch.
        self.waiting = ()

    def check_left(self):
        """Left if another Move has been made on the device."""
        if self.pen.left():
            raise Left(0)

    def volume(self):
        """The number of the volume."""
        self.check_left()
        return self.pen.volume_number

    def charter(self):
        """The charter of the volume."""
        self.check_left()
        return self.pen.volume_charter

    def state(self):
        """The state behind all groups."""
        self.check_left()
        return self.states[-1]

    def sure_state(self):
        """The state behind the sure groups."""
        return self.states[self.sure()]

    def handed(self):
        """How many groups were done."""
        self.check_left()
        return len(self.lasts)

    def sure(self):
        """How many of the groups are sure."""
        self.check_left()
        many = self.pen.safe_many()
        return len([last for last in self.lasts if last < many])

    def row_of(self, name):
        """The row of the name, or NoName."""
        self.check_left()
        for known, row in self.states[-1]:
            if known == name:
                return row
        raise NoName((-1, name))

    def names(self):
        """The names of the state, in its order."""
        self.check_left()
        return tuple([name for name, _ in self.states[-1]])

    def do(self, group):
        """Does the group; its number."""
        self.check_left()
        p, k, _ = self.pen.volume_charter[0]
        state = applied(self.states[-1], made_group(p, group))
        image_figures(k, state)
        self.hold(group_figures(group))
        self.states.append(state)
        return len(self.lasts) - 1

    def hold(self, figures):
        """Puts the figures of a group at the end of the log, or Full if it has no room for them."""
        room = self.pen.volume_charter[0][1] - 2
        start = len(self.pen.batches)
        batches = cut(room + 2, LOG, self.waiting + figures)
        if start + len(batches) > MOST_BATCHES:
            raise Full(start + len(batches) - MOST_BATCHES)
        self.lasts.append(start + len(batches) - 1)
        self.waiting += figures
        while len(self.waiting) >= room:
            self.begin_open(room)

    def begin_open(self, many):
        """Begins the open batch with the first `many` figures that wait; the others go into the next one."""
        k = self.pen.volume_charter[0][1]
        for batch in cut(k, LOG, self.waiting[:many]):
            self.pen.begin(batch)
        self.waiting = self.waiting[many:]

    def flush(self):
        """Begins the open batch if it has figures."""
        self.check_left()
        self.begin_open(len(self.waiting))

    def write(self, point):
        """Lets the shelf with this point write a cell; the cell, or None if it writes nothing."""
        self.check_left()
        return self.pen.write(point)

    def lost(self, point):
        """Leaves the shelf with this point alone in this volume from now on."""
        self.check_left()
        self.pen.lost(point)

    def safe_many(self):
        """How many batches are safe without a gap, from batch 0 on."""
        self.check_left()
        return self.pen.safe_many()

    def move(self, charter):
        """A Move of the state to a new volume with this charter."""
        self.check_left()
        return self.maker.moved(charter, self.states[-1])

    def strike_elder(self):
        """All pairs (volume, point) of tapes of lower volumes that have cells."""
        self.check_left()
        return self.pen.elder_tapes()
