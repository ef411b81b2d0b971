"""Charters: how volumes are written ([13.3])."""

from firstsafe.books import is_book, made_book
from firstsafe.errors import BadCharter, BadCharters, Hopeless
from firstsafe.grounds import is_ground, made_ground, shelves
from firstsafe.kinds import is_number, is_pair
from firstsafe.limits import LEAST_STORE_NUMBERS, LEAST_STORE_PRIME
from firstsafe.safety import bearable


def broken_rule(ground):
    """The number of the rule of charters that the ground breaks, None if it keeps both."""
    p, k, _ = ground
    if p < LEAST_STORE_PRIME:
        return 1
    if k < LEAST_STORE_NUMBERS:
        return 2
    return None


def made_charter(thing):
    """The charter, or BadCharter, what is wrong with its ground or its book, or Hopeless."""
    if not is_pair(thing):
        raise BadCharter(0)
    ground, book = thing
    made_book(shelves(made_ground(ground)), book)
    rule = broken_rule(ground)
    if rule is not None:
        raise BadCharter(rule)
    if not bearable(ground, book, False):
        raise Hopeless(0)
    return thing


def is_charter(thing):
    """True for a charter; a judge."""
    if not is_pair(thing) or not is_ground(thing[0]):
        return False
    ground, book = thing
    return is_book(shelves(ground), book) and broken_rule(ground) is None and bearable(ground, book, False)


def charters_fault(thing):
    """What BadCharters is to tell of the thing, None for charters by ascending volumes."""
    if not isinstance(thing, tuple):
        return -1
    before = -1
    for index, item in enumerate(thing):
        if not is_pair(item) or not is_number(item[0]) or item[0] <= before or not is_charter(item[1]):
            return index
        before = item[0]
    return None


def made_charters(thing):
    """The charters, or BadCharters."""
    fault = charters_fault(thing)
    if fault is not None:
        raise BadCharters(fault)
    return thing
