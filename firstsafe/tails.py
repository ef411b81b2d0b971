"""Tails without a book: rows of which only the number of torn cells is bounded ([8] to [8.3])."""

from firstsafe.errors import BadNumber, BadRows, TooMany
from firstsafe.forms import quotient
from firstsafe.grounds import made_batch, made_lengths, shelves
from firstsafe.heads import cell_weights, flats_in_heads
from firstsafe.kinds import number_between, numbers_fit, tuple_fault
from firstsafe.limits import MOST_TAIL_CELLS, MOST_TORN, MOST_TORN_TRIED
from firstsafe.locating import found_locator, has_room
from firstsafe.readers import answer_for
from firstsafe.rows import row
from firstsafe.shares import shares
from firstsafe.tapes import reading_of


def rows_fault(ground, thing):
    """What BadRows is to tell of the thing, None for rows of the ground."""
    many = shelves(ground)
    return tuple_fault(thing, many, many, lambda numbers: numbers_fit(numbers, 0, MOST_TAIL_CELLS, ground[0] - 1))


def made_rows(ground, thing):
    """The rows, or BadRows."""
    fault = rows_fault(ground, thing)
    if fault is not None:
        raise BadRows(fault)
    return thing


def is_torn_bound(thing):
    """True for a number from 0 to 24."""
    return number_between(thing, 0, MOST_TORN)


def made_torn_bound(thing):
    """The bound for the number of torn cells, or BadNumber."""
    if not is_torn_bound(thing):
        raise BadNumber(thing)
    return thing


def torn_of(numbers, right):
    """How many of the numbers are torn if these were the right ones."""
    for j, number in enumerate(numbers):
        if number != right[j]:
            return len(numbers) - j
    return 0


def torn(ground, batch, rows):
    """How many cells of all shelves are torn for the batch."""
    made_batch(ground, batch)
    made_rows(ground, rows)
    return sum([torn_of(numbers, row(ground, batch, shelf, len(numbers))) for shelf, numbers in enumerate(rows)])


def worst(ground, lengths, w):
    """The greatest sum of the cells of two groups of shelves, of each group w cells at the most."""
    made_lengths(ground, lengths)
    made_torn_bound(w)
    groups = {0: True}
    for length in lengths:
        for many in list(groups):
            groups[many + length] = True
    total = sum(lengths)
    return max([min(many, w) + min(total - many, w) for many in groups])


def tail_safe(ground, lengths, w):
    """True if no rows of these lengths leave two batches with at most w torn cells."""
    least = worst(ground, lengths, w)
    return sum(lengths) - least >= ground[1]


def read_by_locator(ground, rows, w):
    """The answer of rows with room for a locator: at most one batch has at most w torn cells."""
    found = found_locator(ground, rows, w)
    batch = None if found is None else quotient(ground[0], found[1], found[0])
    return ("none",) if batch is None else ("told", batch)


def read_by_trying(ground, rows, w):
    """The answer of any rows: each way to have w torn cells leaves heads, and the batches that they allow."""
    lengths = [len(numbers) for numbers in rows]
    reading = reading_of(rows)
    weights = cell_weights(ground)
    found = []
    for share in shares(lengths, min(w, sum(lengths))):
        left = [length - part for length, part in zip(lengths, share)]
        found.append(flats_in_heads(ground, weights, reading, left))
    answer = answer_for(ground, [flats for flats in found if flats is not None], 0)
    if answer[0] == "open":
        return ("open", answer[2], answer[3])
    return answer


def read_tails(ground, rows, w):
    """The answer of rows with at most w torn cells: ("none",), ("told", batch) or ("open", one, two)."""
    made_rows(ground, rows)
    made_torn_bound(w)
    if has_room(ground, rows, w):
        return read_by_locator(ground, rows, w)
    if w > MOST_TORN_TRIED:
        raise TooMany(w)
    return read_by_trying(ground, rows, w)
