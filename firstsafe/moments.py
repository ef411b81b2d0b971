"""Events, which tell what is written in time, and the moments at which batches become safe ([6.6])."""

from firstsafe.errors import BadEvents, BadNumber
from firstsafe.grounds import made_ground
from firstsafe.kinds import is_pair, number_between
from firstsafe.limits import MOST_CELLS, MOST_EVENTS
from firstsafe.rows import shelf_fits
from firstsafe.safety import check_manner
from firstsafe.tally import Tally
from firstsafe.tapes import is_batch_number


def event_fits(ground, thing):
    """True for a pair of a shelf of the ground and a batch number."""
    return is_pair(thing) and shelf_fits(ground, thing[0]) and is_batch_number(thing[1])


def events_fault(ground, thing):
    """What BadEvents is to tell of the thing, None for events of the ground."""
    if not isinstance(thing, tuple) or len(thing) > MOST_EVENTS:
        return -1
    lengths = [0] * len(ground[2])
    for index, item in enumerate(thing):
        if not event_fits(ground, item) or lengths[item[0]] == MOST_CELLS:
            return index
        lengths[item[0]] += 1
    return None


def made_events(ground, thing):
    """The events, or BadEvents."""
    fault = events_fault(made_ground(ground), thing)
    if fault is not None:
        raise BadEvents(fault)
    return thing


def after(ground, events, many):
    """The weaving after the first `many` events."""
    made_events(ground, events)
    if not number_between(many, 0, len(events)):
        raise BadNumber(many)
    tapes = [[] for _ in ground[2]]
    for shelf, b in events[:many]:
        tapes[shelf].append(b)
    return tuple([tuple(tape) for tape in tapes])


def moments(ground, book, told, events):
    """The moment of each batch from 0 to the greatest one in the events; None for one that never becomes safe."""
    check_manner(ground, book, told)
    made_events(ground, events)
    tally = Tally(ground, book, told)
    found = {}
    for index, (shelf, b) in enumerate(events):
        for c in tally.write(shelf, b):
            found[c] = index + 1
    greatest = max([b for _, b in events], default=-1)
    return tuple([found.get(b) for b in range(greatest + 1)])
