"""Flats: all batches that keep some equations ([7])."""

from firstsafe.errors import BadEquations
from firstsafe.grounds import batch_fault, made_ground
from firstsafe.kinds import is_pair, number_between
from firstsafe.matrices import first_columns, kernel_of, reduced


def equation_fits(ground, thing):
    """True for a pair of k weights and a right side."""
    # The weights have just the form of a batch.
    return is_pair(thing) and batch_fault(ground, thing[0]) is None and number_between(thing[1], 0, ground[0] - 1)


def equations_fault(ground, thing):
    """What BadEquations is to tell of the thing, None for equations of the ground."""
    if not isinstance(thing, tuple):
        return -1
    for index, item in enumerate(thing):
        if not equation_fits(ground, item):
            return index
    return None


def solved(p, k, equations):
    """The flat (point, ways) of the equations of k numbers, None if it is empty. Nothing is checked."""
    rows = reduced(tuple([weights + (right,) for weights, right in equations]), k + 1, p)
    columns = first_columns(rows)
    if k in columns:
        return None
    point = [0] * k
    for row, column in zip(rows, columns):
        point[column] = row[k]
    return (tuple(point), kernel_of(tuple([row[:k] for row in rows]), k, p))


def flat(ground, equations):
    """The pair (point, ways) of all batches that keep all equations, None if there is no such batch."""
    fault = equations_fault(made_ground(ground), equations)
    if fault is not None:
        raise BadEquations(fault)
    return solved(ground[0], ground[1], equations)


def keeps(p, batch, weights, right):
    """True if the batch keeps the equation."""
    return sum([a * b for a, b in zip(weights, batch)]) % p == right


def two_unlike(p, lot):
    """Two different batches among all those of the flats in the lot, None if there is only one; the lot has a flat."""
    for point, ways in lot:
        if ways:
            return (point, tuple([(a + b) % p for a, b in zip(point, ways[0])]))
    first = lot[0][0]
    for point, _ in lot:
        if point != first:
            return (first, point)
    return None
