"""Right heads: the cells of a reading that a row of a book leaves right, and what they tell of the batches ([7.1])."""

from firstsafe.flats import keeps, solved
from firstsafe.forms import value_weights
from firstsafe.safety import head_length
from firstsafe.tapes import cells_by_batch


def right_lengths(row, reading):
    """How many cells the right head has on each shelf."""
    return tuple([head_length((0, v), len(cells)) for (_, v), cells in zip(row, reading)])


def far_from(fate, stood, cells):
    """True if such cells cannot be left of a tape that stood so, whatever the fate did to it."""
    u, v = fate
    if len(cells) > len(stood) or (u is not None and len(cells) < len(stood) - u):
        return True
    right = head_length((0, v), len(cells))
    return tuple([b for b, _ in cells[:right]]) != stood[:right]


def far_shelf(row, stand, reading):
    """The first shelf that shows that the row left no such reading of the weaving as it stood, None if none does.

    If nobody told how the weaving stood, none does.
    """
    if stand is None:
        return None
    for shelf, fate in enumerate(row):
        if far_from(fate, stand[shelf], reading[shelf]):
            return shelf
    return None


def cell_weights(ground):
    """For each shelf, at index j, the weights of its cell j; at index k those of all cells from k on."""
    p, k, points = ground
    return [[value_weights(p, k, point, j) for j in range(k + 1)] for point in points]


def equations_of(k, weights, cells):
    """The equations of the cells (shelf, j, number) of one batch."""
    return [(weights[shelf][min(j, k)], number) for shelf, j, number in cells]


def flat_of_cells(ground, weights, cells):
    """The flat of the cells of one batch in right heads, None if it is empty.

    The first k of them are beginnings of the rows of unlike shelves. So they determine the batch ([0.3] (a)), and there
    are others only to agree or not.
    """
    p, k, _ = ground
    equations = equations_of(k, weights, cells)
    found = solved(p, k, equations[:k])
    if not all([keeps(p, found[0], line, right) for line, right in equations[k:]]):
        return None
    return found


def flats_in_heads(ground, weights, reading, lengths):
    """The flats of all batches that have cells in right heads of these lengths, None if one of the flats is empty."""
    found = {}
    for b, cells in cells_by_batch(reading, lengths).items():
        one = flat_of_cells(ground, weights, cells)
        if one is None:
            return None
        found[b] = one
    return found


def lot_in(ground, heads, b):
    """The flats of batch b, one for the flats of all batches in each of the heads."""
    # Where the batch has no cell, every batch is possible.
    whole = solved(ground[0], ground[1], [])
    return [flats.get(b, whole) for flats in heads]
