"""Stops, which tell what became of each tape ([3.2])."""

from firstsafe.errors import BadStop, Short
from firstsafe.grounds import shelves
from firstsafe.kinds import is_pair, number_between, tuple_fault
from firstsafe.limits import MOST_CELLS
from firstsafe.tapes import cells_fit, made_reading


def tape_stop_fits(p, thing):
    """True for a pair (gone, wrong) of a number of cells and a tuple of cells."""
    return is_pair(thing) and number_between(thing[0], 0, MOST_CELLS) and cells_fit(p, thing[1])


def stop_fault(ground, thing):
    """What BadStop is to tell of the thing, None for a stop of the ground."""
    many = shelves(ground)
    return tuple_fault(thing, many, many, lambda item: tape_stop_fits(ground[0], item))


def made_stop(ground, thing):
    """The stop, or BadStop."""
    fault = stop_fault(ground, thing)
    if fault is not None:
        raise BadStop(fault)
    return thing


def stopped_tape(cells, gone, wrong):
    """The cells less the last `gone` ones, the last of those left being replaced by the wrong ones."""
    right = len(cells) - gone - len(wrong)
    return cells[:right] + wrong


def short_shelf(tapes, stop):
    """The first shelf whose tape is too short for the stop, or None."""
    for shelf, (gone, wrong) in enumerate(stop):
        if gone + len(wrong) > len(tapes[shelf]):
            return shelf
    return None


def stopped(ground, reading, stop):
    """The reading that the stop leaves."""
    made_reading(ground, reading)
    made_stop(ground, stop)
    shelf = short_shelf(reading, stop)
    if shelf is not None:
        raise Short(shelf)
    return tuple([stopped_tape(cells, gone, wrong) for cells, (gone, wrong) in zip(reading, stop)])
