"""Readers: what a reading tells of the batches behind whatever a book allows ([7.1], [7.2])."""

from firstsafe.books import made_book
from firstsafe.flats import two_unlike
from firstsafe.grounds import shelves
from firstsafe.heads import cell_weights, far_shelf, flats_in_heads, lot_in, right_lengths
from firstsafe.tapes import made_batch_number, made_reading, made_weaving


def check_reading(ground, book, stand, reading):
    """Raises what is wrong with the ground, the book, the weaving as it stood or the reading, in this order."""
    made_book(shelves(ground), book)
    if stand is not None:
        made_weaving(ground, stand)
    made_reading(ground, reading)


def possible_heads(ground, book, stand, reading):
    """For each possible row the flats of all batches in its right heads; equal right heads once."""
    weights = cell_weights(ground)
    found = {}
    for row in book:
        lengths = right_lengths(row, reading)
        if lengths not in found and far_shelf(row, stand, reading) is None:
            found[lengths] = flats_in_heads(ground, weights, reading, lengths)
    return [flats for flats in found.values() if flats is not None]


def shared_numbers(k, lot):
    """For each place the number that all batches of the lot have there, None if they differ there."""
    first = lot[0][0]
    found = []
    for t in range(k):
        differ = any([point[t] != first[t] or any([way[t] for way in ways]) for point, ways in lot])
        found.append(None if differ else first[t])
    return tuple(found)


def answer_for(ground, heads, b):
    """The answer for batch b, the possible rows having these flats."""
    if not heads:
        return ("none",)
    lot = lot_in(ground, heads, b)
    pair = two_unlike(ground[0], lot)
    if pair is None:
        return ("told", lot[0][0])
    return ("open", shared_numbers(ground[1], lot), pair[0], pair[1])


def read(ground, book, stand, reading, b):
    """The answer of the reading for batch b: ("none",), ("told", batch) or ("open", numbers, one, two)."""
    check_reading(ground, book, stand, reading)
    made_batch_number(b)
    return answer_for(ground, possible_heads(ground, book, stand, reading), b)


def read_all(ground, book, stand, reading):
    """The answers for the batches from 0 to the greatest one of which the reading has a cell."""
    check_reading(ground, book, stand, reading)
    heads = possible_heads(ground, book, stand, reading)
    greatest = max([b for cells in reading for b, _ in cells], default=-1)
    return tuple([answer_for(ground, heads, b) for b in range(greatest + 1)])
