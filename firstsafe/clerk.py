"""The clerk, who keeps a weaving while it is written and reports the batches that are safe ([6.7])."""

from firstsafe.books import made_book
from firstsafe.errors import Full
from firstsafe.grounds import shelves
from firstsafe.limits import MOST_BATCHES, MOST_CELLS
from firstsafe.rows import made_shelf
from firstsafe.tally import Tally
from firstsafe.tapes import made_batch_number


class Clerk:
    """Keeps the weaving of a ground and tells which batches are safe with `told` False."""

    def __init__(self, ground, book):
        made_book(shelves(ground), book)
        self.ground = ground
        self.rules = book
        self.tally = Tally(ground, book, False)

    def write(self, shelf, b):
        """Writes the next cell of batch b on the shelf; the batches that are safe now and were not before."""
        made_shelf(self.ground, shelf)
        made_batch_number(b)
        if len(self.tally.tapes[shelf]) == MOST_CELLS:
            raise Full(shelf)
        return self.tally.write(shelf, b)

    def weaving(self):
        """The weaving."""
        return self.tally.woven()

    def done(self):
        """The numbers of all safe batches, ascending."""
        return tuple([b for b in range(MOST_BATCHES) if self.tally.reports_safe(b)])

    def change(self, book):
        """Exchanges the book; the batches that were safe before and are not now."""
        made_book(shelves(self.ground), book)
        return self.counted_anew(book, self.weaving())

    def lost(self, shelf):
        """Empties the tape of the shelf; the batches that were safe before and are not now."""
        made_shelf(self.ground, shelf)
        before = self.weaving()
        return self.counted_anew(self.rules, before[:shelf] + ((),) + before[shelf + 1:])

    def counted_anew(self, book, weaving):
        """Goes on with this book and this weaving; the batches that were safe before and are not now."""
        before = self.done()
        self.rules = book
        self.tally = Tally(self.ground, book, False)
        self.tally.write_all(weaving)
        return tuple([b for b in before if not self.tally.reports_safe(b)])
