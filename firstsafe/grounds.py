"""Grounds, and the batches and lengths of a ground ([1.2], [1.3])."""

from firstsafe.errors import BadBatch, BadBatches, BadGround, BadLengths
from firstsafe.kinds import number_between, numbers_fit, tuple_fault
from firstsafe.limits import MOST_BATCHES, MOST_CELLS, MOST_NUMBERS, MOST_SHELVES
from firstsafe.primes import is_prime


def points_fit(p, thing):
    """True for a tuple of 1 to 8 different numbers from 0 to p."""
    return numbers_fit(thing, 1, MOST_SHELVES, p) and len(set(thing)) == len(thing)


def ground_fault(thing):
    """What BadGround is to tell of the thing, None for a ground."""
    if not isinstance(thing, tuple) or len(thing) != 3:
        return -1
    if not is_prime(thing[0]):
        return 0
    if not number_between(thing[1], 1, MOST_NUMBERS):
        return 1
    if not points_fit(thing[0], thing[2]):
        return 2
    return None


def is_ground(thing):
    """True for a ground; a judge."""
    return ground_fault(thing) is None


def made_ground(thing):
    """The ground, or BadGround."""
    fault = ground_fault(thing)
    if fault is not None:
        raise BadGround(fault)
    return thing


def shelves(ground):
    """How many shelves the ground has."""
    return len(made_ground(ground)[2])


def batch_fault(ground, thing):
    """What BadBatch is to tell of the thing, None for a batch of the ground."""
    p, k, _ = ground
    return tuple_fault(thing, k, k, lambda number: number_between(number, 0, p - 1))


def is_batch(ground, thing):
    """True for a batch of the ground; a judge."""
    return is_ground(ground) and batch_fault(ground, thing) is None


def made_batch(ground, thing):
    """The batch, or BadBatch."""
    fault = batch_fault(made_ground(ground), thing)
    if fault is not None:
        raise BadBatch(fault)
    return thing


def made_batches(ground, thing):
    """The tuple of batches, or BadBatches."""
    made_ground(ground)
    fault = tuple_fault(thing, 0, MOST_BATCHES, lambda item: batch_fault(ground, item) is None)
    if fault is not None:
        raise BadBatches(fault)
    return thing


def made_lengths(ground, thing):
    """The tuple of one length for each shelf, or BadLengths."""
    many = shelves(ground)
    fault = tuple_fault(thing, many, many, lambda length: number_between(length, 0, MOST_CELLS))
    if fault is not None:
        raise BadLengths(fault)
    return thing
