"""The reader at the far end of one line for each shelf ([11])."""

from firstsafe.books import made_book
from firstsafe.errors import BadNumber, Full
from firstsafe.grounds import shelves
from firstsafe.kinds import number_between
from firstsafe.limits import MOST_HEARD
from firstsafe.readers import read
from firstsafe.rows import made_shelf
from firstsafe.tapes import reading_of


class Far:
    """Hears the cells of one batch and reads everything heard so far after each of them."""

    def __init__(self, ground, book):
        made_book(shelves(ground), book)
        self.ground = ground
        self.rules = book
        self.lines = [[] for _ in ground[2]]

    def hear(self, shelf, number):
        """Adds a cell; the answer of `read` for all cells heard so far."""
        made_shelf(self.ground, shelf)
        if not number_between(number, 0, self.ground[0] - 1):
            raise BadNumber(number)
        if len(self.lines[shelf]) == MOST_HEARD:
            raise Full(shelf)
        self.lines[shelf].append(number)
        return read(self.ground, self.rules, None, reading_of(self.lines), 0)

    def heard(self):
        """The numbers heard for each shelf."""
        return tuple([tuple(numbers) for numbers in self.lines])
