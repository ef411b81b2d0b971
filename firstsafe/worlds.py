"""Doubts: two worlds that leave the same reading and differ in a batch, which therefore is not safe ([6.5])."""

from firstsafe.bounds import at_most
from firstsafe.forms import product
from firstsafe.limits import MOST_BATCHES
from firstsafe.safety import bounds_of, check_written, counts_of, head_length, heads_of, many_in, sums
from firstsafe.tapes import written


def open_heads(ground, book, told, weaving, b):
    """The first two rows (i, j) whose common heads have fewer than k cells of batch b, and the lengths of these heads.

    None if there are no such rows.
    """
    counts = counts_of(weaving, b)
    for i, one in enumerate(book):
        for j, two in enumerate(book):
            heads = heads_of(one, two, told, weaving)
            if many_in(heads, counts) < ground[1]:
                return (i, j, heads)
    return None


def hidden_batch(ground, lengths):
    """A batch that is not all zeros, but whose rows begin with as many zeros as the lengths tell."""
    numbers = product(ground, lengths)
    return numbers + (0,) * (ground[1] - len(numbers))


def world_of(ground, weaving, b, batch):
    """What the shelves have if batch b is this one and all others have only zeros."""
    zeros = (0,) * ground[1]
    return written(ground, tuple([batch if c == b else zeros for c in range(MOST_BATCHES)]), weaving)


def tape_stops(fate, other, told, cells, other_cells):
    """What becomes of one tape in the first world and in the second one, so that both leave the same.

    The fates are those of the two rows, the cells what the whole tape has in the two worlds.
    """
    bounds = bounds_of(fate, other, told)
    left = head_length((bounds[0], 0), len(cells))
    common = head_length(bounds, len(cells))
    gone = len(cells) - left
    wrong, other_wrong = (), cells[common:left]
    # Both worlds show what the row with the lesser v has to leave right.
    if not at_most(fate[1], other[1]):
        wrong, other_wrong = other_cells[common:left], ()
    return ((gone, wrong), (gone if told else 0, other_wrong))


def other_weaving(told, weaving, first):
    """The weaving of the second world, the first one being stopped so."""
    if told:
        return weaving
    return tuple([tape[:len(tape) - gone] for tape, (gone, _) in zip(weaving, first)])


def doubt(ground, book, told, weaving, b):
    """None if batch b is safe, otherwise a doubt (i, j, one, two, first, second, other)."""
    check_written(ground, book, told, weaving, b)
    found = open_heads(ground, book, told, weaving, b)
    if found is None:
        return None
    i, j, heads = found
    counts = counts_of(weaving, b)
    one = (0,) * ground[1]
    two = hidden_batch(ground, tuple([counted[length] for counted, length in zip(counts, heads)]))
    cells, other_cells = world_of(ground, weaving, b, one), world_of(ground, weaving, b, two)
    stops = [tape_stops(book[i][shelf], book[j][shelf], told, cells[shelf], other_cells[shelf])
             for shelf in range(len(weaving))]
    first, second = tuple([stop for stop, _ in stops]), tuple([stop for _, stop in stops])
    return (i, j, one, two, first, second, other_weaving(told, weaving, first))


def why(ground, book, told, weaving, b):
    """("safe", sums) if batch b is safe, otherwise ("doubt", doubt)."""
    found = doubt(ground, book, told, weaving, b)
    if found is None:
        return ("safe", sums(ground, book, told, weaving, b))
    return ("doubt", found)
