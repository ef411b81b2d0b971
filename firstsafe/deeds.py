"""Deeds, groups of deeds, and what they do to a state ([19.2] to [19.4])."""

from firstsafe.errors import BadGroup, NoName, There
from firstsafe.figures import is_name, numbers_are_row, prime_fits, signs_of
from firstsafe.kinds import tuple_fault
from firstsafe.limits import MOST_DEEDS

PUT = "put"
DROP = "drop"
MOVE = "move"
SWAP = "swap"


def deed_fits(p, thing):
    """True for a deed, whether p may be that of a store or not."""
    if not isinstance(thing, tuple) or not 2 <= len(thing) <= 3 or not is_name(thing[1]):
        return False
    if len(thing) == 2:
        return thing[0] == DROP
    if thing[0] == PUT:
        return numbers_are_row(p, thing[2])
    return thing[0] in (MOVE, SWAP) and is_name(thing[2])


def is_deed(p, thing):
    """True for a deed; a judge."""
    return prime_fits(p) and deed_fits(p, thing)


def made_group(p, thing):
    """The group of deeds, or BadGroup."""
    fault = tuple_fault(thing, 1, MOST_DEEDS, lambda item: deed_fits(p, item))
    if fault is not None:
        raise BadGroup(fault)
    return thing


def check_there(rows, index, name):
    """NoName if the name that the deed number `index` needs is not among the rows."""
    if name not in rows:
        raise NoName((index, name))


def move_row(rows, index, name, new):
    """Gives the row of the name to the name `new`."""
    check_there(rows, index, name)
    if new in rows:
        raise There((index, new))
    rows[new] = rows[name]
    del rows[name]


def swap_rows(rows, index, name, other):
    """Exchanges the rows of two names."""
    check_there(rows, index, name)
    check_there(rows, index, other)
    rows[name], rows[other] = rows[other], rows[name]


def do_deed(rows, index, deed):
    """Does the deed number `index` on the rows by their names."""
    word = deed[0]
    name = deed[1]
    if word == PUT:
        rows[name] = deed[2]
    elif word == DROP:
        check_there(rows, index, name)
        del rows[name]
    elif word == MOVE:
        move_row(rows, index, name, deed[2])
    else:
        swap_rows(rows, index, name, deed[2])


def applied(state, group):
    """The state after the deeds, done one after the other, or NoName or There."""
    rows = dict(state)
    for index, deed in enumerate(group):
        do_deed(rows, index, deed)
    return tuple([(name, rows[name]) for name in sorted(list(rows), key=signs_of)])
