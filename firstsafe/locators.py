"""Locators, by which a batch is found in rows with torn cells ([8.4])."""

from firstsafe.errors import NotSo
from firstsafe.forms import quotient
from firstsafe.grounds import made_ground
from firstsafe.locating import found_locator, has_room
from firstsafe.tails import made_rows, made_torn_bound


def locator(ground, rows, w):
    """A locator (E, F) of the rows for w torn cells, or None if there is none."""
    made_rows(ground, rows)
    made_torn_bound(w)
    if not has_room(ground, rows, w):
        raise NotSo(0)
    return found_locator(ground, rows, w)


def batch_of(ground, E, F):
    """The quotient of F by E, or None."""
    return quotient(made_ground(ground)[0], F, E)
