"""Names of shelves, and the words that are no names ([5])."""

from firstsafe.errors import BadNames
from firstsafe.kinds import unlike_tuple_fault
from firstsafe.limits import MOST_NAME, MOST_SHELVES

LETTERS = "abcdefghijklmnopqrstuvwxyz"
FIGURES = "0123456789"
OWN_WORDS = ("nothing", "and", "lose", "cut", "tear", "turn", "any", "of")


def is_shelf_name(thing):
    """True for a text of the form of a name."""
    if not isinstance(thing, str) or not 1 <= len(thing) <= MOST_NAME or thing in OWN_WORDS:
        return False
    return thing[0] in LETTERS and all([sign in LETTERS or sign in FIGURES for sign in thing])


def made_names(thing):
    """The names of shelves, or BadNames."""
    fault = unlike_tuple_fault(thing, 1, MOST_SHELVES, is_shelf_name)
    if fault is not None:
        raise BadNames(fault)
    return thing
