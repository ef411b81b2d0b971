"""Counting the cells in the common heads of all rows while tapes are written ([6.2], [6.6], [6.7])."""

from firstsafe.limits import MOST_BATCHES
from firstsafe.safety import bounds_of, delay_of


def unlike_delays(book, told):
    """For each two rows, how many cells must lie behind a cell of each shelf (None: never enough); equal ones once."""
    found = {}
    for one in book:
        for two in book:
            found[tuple([delay_of(bounds_of(fate, other, told)) for fate, other in zip(one, two)])] = True
    return list(found)


class Tally:
    """The tapes of all shelves while they are written, and which batches are safe on them.

    A cell that is written brings at most one more cell of its tape into each common head, so nothing is counted again.
    """

    def __init__(self, ground, book, told):
        delays = unlike_delays(book, told)
        self.needed = ground[1]
        self.tapes = [[] for _ in ground[2]]
        self.waits = [[delay[shelf] for delay in delays] for shelf in range(len(ground[2]))]
        self.counts = [[0] * MOST_BATCHES for _ in delays]
        # For each batch, in how many of the common heads it still lacks cells.
        self.lacking = [len(delays)] * MOST_BATCHES

    def write(self, shelf, b):
        """Writes the next cell of batch b on the shelf; the batches that became safe by it, ascending."""
        tape = self.tapes[shelf]
        tape.append(b)
        found = []
        for counted, wait in zip(self.counts, self.waits[shelf]):
            if wait is None or wait >= len(tape):
                continue
            c = tape[len(tape) - 1 - wait]
            counted[c] += 1
            if counted[c] == self.needed:
                self.lacking[c] -= 1
                if self.lacking[c] == 0:
                    found.append(c)
        return tuple(sorted(found))

    def write_all(self, weaving):
        """Writes a whole weaving."""
        for shelf, tape in enumerate(weaving):
            for b in tape:
                self.write(shelf, b)

    def reports_safe(self, b):
        """True if batch b is safe."""
        return self.lacking[b] == 0

    def woven(self):
        """What has been written, as a weaving."""
        return tuple([tuple(tape) for tape in self.tapes])
