"""Weavings, which tell what the shelves wrote, and readings, which tell what lies on them ([3], [3.1])."""

from firstsafe.errors import BadNumber, BadReading, BadWeaving, Missing
from firstsafe.grounds import is_ground, made_batches, made_lengths, shelves
from firstsafe.kinds import is_pair, number_between, tuple_fault, tuple_fits
from firstsafe.limits import MOST_BATCHES, MOST_CELLS
from firstsafe.rows import row


def is_batch_number(thing):
    """True for a number from 0 to 63."""
    return number_between(thing, 0, MOST_BATCHES - 1)


def made_batch_number(thing):
    """The batch number, or BadNumber."""
    if not is_batch_number(thing):
        raise BadNumber(thing)
    return thing


def is_tape(thing):
    """True for a tuple of at most 1,024 batch numbers."""
    return tuple_fits(thing, 0, MOST_CELLS, is_batch_number)


def cell_fits(p, thing):
    """True for a pair of a batch number and a number from 0 to p - 1."""
    return is_pair(thing) and is_batch_number(thing[0]) and number_between(thing[1], 0, p - 1)


def cells_fit(p, thing):
    """True for a tuple of at most 1,024 cells."""
    return tuple_fits(thing, 0, MOST_CELLS, lambda item: cell_fits(p, item))


def weaving_fault(ground, thing):
    """What BadWeaving is to tell of the thing, None for a weaving of the ground."""
    many = shelves(ground)
    return tuple_fault(thing, many, many, is_tape)


def made_weaving(ground, thing):
    """The weaving, or BadWeaving."""
    fault = weaving_fault(ground, thing)
    if fault is not None:
        raise BadWeaving(fault)
    return thing


def is_weaving(ground, thing):
    """True for a weaving of the ground; a judge."""
    return is_ground(ground) and weaving_fault(ground, thing) is None


def reading_fault(ground, thing):
    """What BadReading is to tell of the thing, None for a reading of the ground."""
    many = shelves(ground)
    return tuple_fault(thing, many, many, lambda item: cells_fit(ground[0], item))


def made_reading(ground, thing):
    """The reading, or BadReading."""
    fault = reading_fault(ground, thing)
    if fault is not None:
        raise BadReading(fault)
    return thing


def is_reading(ground, thing):
    """True for a reading of the ground; a judge."""
    return is_ground(ground) and reading_fault(ground, thing) is None


def weaving_of(ground, reading):
    """The weaving with the batch numbers of the reading's cells."""
    made_reading(ground, reading)
    return tuple([tuple([b for b, _ in cells]) for cells in reading])


def written_tape(ground, batches, shelf, tape):
    """The cells that the shelf has when nothing befell its tape."""
    rows = {b: row(ground, batches[b], shelf, tape.count(b)) for b in sorted(set(tape))}
    seen = {b: 0 for b in rows}
    cells = []
    for b in tape:
        cells.append((b, rows[b][seen[b]]))
        seen[b] += 1
    return tuple(cells)


def written(ground, batches, weaving):
    """The reading that the shelves have when nothing befell them."""
    made_batches(ground, batches)
    made_weaving(ground, weaving)
    missing = [b for tape in weaving for b in tape if b >= len(batches)]
    if missing:
        raise Missing(min(missing))
    return tuple([written_tape(ground, batches, shelf, tape) for shelf, tape in enumerate(weaving)])


def reading_of(rows):
    """The reading in which all numbers are those of cells of batch 0."""
    return tuple([tuple([(0, number) for number in numbers]) for numbers in rows])


def cells_by_batch(reading, lengths):
    """For each batch its cells (shelf, j, number) among the first cells of each shelf, as many as the lengths tell."""
    found = {}
    for shelf, cells in enumerate(reading):
        seen = {}
        for b, number in cells[:lengths[shelf]]:
            j = seen.get(b, 0)
            seen[b] = j + 1
            found.setdefault(b, []).append((shelf, j, number))
    return found


def cells_of(ground, reading, lengths, b):
    """The cells (shelf, j, number) of batch b among the first cells of each shelf, as many as the lengths tell."""
    made_reading(ground, reading)
    made_lengths(ground, lengths)
    made_batch_number(b)
    return tuple(cells_by_batch(reading, lengths).get(b, []))
