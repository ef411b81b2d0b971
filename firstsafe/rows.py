"""The rows of a batch on the shelves, cell by cell ([2.1])."""

from firstsafe.errors import BadPlace, BadShelf
from firstsafe.forms import value, value_weights
from firstsafe.grounds import made_batch, made_ground
from firstsafe.kinds import number_between
from firstsafe.limits import MOST_CELLS


def shelf_fits(ground, thing):
    """True for a number from 0 to the number of shelves less 1."""
    return number_between(thing, 0, len(ground[2]) - 1)


def made_shelf(ground, thing):
    """The shelf, or BadShelf."""
    if not shelf_fits(ground, thing):
        raise BadShelf(thing)
    return thing


def point_of(ground, shelf):
    """The point of the shelf, or BadShelf."""
    return ground[2][made_shelf(ground, shelf)]


def cell(ground, batch, shelf, j):
    """The cell j of the batch on the shelf."""
    made_batch(ground, batch)
    point = point_of(ground, shelf)
    if not number_between(j, 0, MOST_CELLS - 1):
        raise BadPlace(j)
    return value(ground[0], batch, point, j)


def row(ground, batch, shelf, many):
    """The first `many` cells of the batch on the shelf."""
    made_batch(ground, batch)
    point = point_of(ground, shelf)
    if not number_between(many, 0, MOST_CELLS):
        raise BadPlace(many)
    return tuple([value(ground[0], batch, point, j) for j in range(many)])


def equation(ground, shelf, j):
    """How much each number of a batch counts in the cell j on the shelf."""
    p, k, _ = made_ground(ground)
    point = point_of(ground, shelf)
    if not number_between(j, 0, MOST_CELLS - 1):
        raise BadPlace(j)
    return value_weights(p, k, point, j)
