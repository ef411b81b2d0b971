"""Books of faults: what has to be reckoned with ([4])."""

from firstsafe.bounds import at_most
from firstsafe.errors import BadBook, BadMany, TooMany
from firstsafe.kinds import is_pair, number_between, tuple_fault, tuple_fits
from firstsafe.limits import MOST_FATE, MOST_PRIME, MOST_ROWS, MOST_SHELVES
from firstsafe.stops import tape_stop_fits


def is_bound(thing):
    """True for a number from 0 to 64 and for None."""
    return thing is None or number_between(thing, 0, MOST_FATE)


def is_fate(thing):
    """True for a pair of bounds."""
    return is_pair(thing) and is_bound(thing[0]) and is_bound(thing[1])


def is_many(thing):
    """True for a number of shelves that a ground may have."""
    return number_between(thing, 1, MOST_SHELVES)


def row_fits(many, thing):
    """True for a tuple of one fate for each of so many shelves."""
    return tuple_fits(thing, many, many, is_fate)


def made_book(many, thing):
    """The book for so many shelves, or BadMany, BadBook or TooMany."""
    if not is_many(many):
        raise BadMany(many)
    if not isinstance(thing, tuple) or not thing:
        raise BadBook(-1)
    if len(thing) > MOST_ROWS:
        raise TooMany(len(thing))
    fault = tuple_fault(thing, 1, MOST_ROWS, lambda item: row_fits(many, item))
    if fault is not None:
        raise BadBook(fault)
    return thing


def is_book(many, thing):
    """True for a book for so many shelves; a judge."""
    return is_many(many) and tuple_fits(thing, 1, MOST_ROWS, lambda item: row_fits(many, item))


def allows(row, stop):
    """True if the row of a book allows the stop; a judge."""
    if not tuple_fits(row, 1, MOST_SHELVES, is_fate):
        return False
    # A stop of whatever ground: its numbers are below the greatest prime.
    if not tuple_fits(stop, len(row), len(row), lambda item: tape_stop_fits(MOST_PRIME, item)):
        return False
    return all([at_most(gone, u) and at_most(len(wrong), v) for (u, v), (gone, wrong) in zip(row, stop)])


def lies_within(row, other):
    """True if everything that the row allows is also allowed by the other one."""
    return all([at_most(u, most_u) and at_most(v, most_v) for (u, v), (most_u, most_v) in zip(row, other)])


def row_order(row):
    """What rows are sorted by: the same numbers, and one above all numbers for None."""
    return [MOST_FATE + 1 if bound is None else bound for fate in row for bound in fate]


def lean(many, book):
    """The rows that lie within no unlike row, each once, in ascending order."""
    made_book(many, book)
    found = {}
    for row in book:
        if not any([row != other and lies_within(row, other) for other in book]):
            found[row] = True
    return tuple(sorted(found, key=row_order))


def same_books(many, one, two):
    """True if both books have the same lean."""
    return lean(many, one) == lean(many, two)
