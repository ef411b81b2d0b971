"""Papers, which show that a reading tells a batch ([7.3])."""

from firstsafe.errors import Open
from firstsafe.flats import keeps, solved
from firstsafe.heads import cell_weights, equations_of, far_shelf, right_lengths
from firstsafe.matrices import reduced, unit
from firstsafe.readers import read
from firstsafe.tapes import cells_by_batch


def inverse_of(p, k, rows):
    """The rows that combine the given ones, k independent rows of k numbers, to the units."""
    found = reduced(tuple([row + unit(k, t) for t, row in enumerate(rows)]), 2 * k, p)
    return [row[k:] for row in found]


def combined(p, k, factors, rows):
    """The sum of the rows of k numbers, each times its factor."""
    return tuple([sum([factor * row[t] for factor, row in zip(factors, rows)]) % p for t in range(k)])


def unit_factors(p, k, equations):
    """For each place, factors with which the weights of the equations sum up to 1 there and to 0 elsewhere.

    The first k equations suffice: they are those of beginnings of rows ([0.3] (a)).
    """
    others = (0,) * (len(equations) - k)
    return tuple([factors + others for factors in inverse_of(p, k, [weights for weights, _ in equations[:k]])])


def clash_factors(p, k, equations):
    """Factors with which the weights of the equations sum up to zeros, but the right sides don't; None if none do.

    There always is a batch that keeps the first k equations ([0.3] (a)). If it does not keep another one, the weights
    of that one are a combination of those of the first k; the difference of both is such a sum.
    """
    batch, _ = solved(p, k, equations[:k])
    for index, (weights, right) in enumerate(equations):
        if not keeps(p, batch, weights, right):
            factors = combined(p, k, weights, inverse_of(p, k, [first for first, _ in equations[:k]]))
            return tuple([-factor % p for factor in factors]) + unit(len(equations) - k, index - k)
    return None


def entry_in(ground, weights, cells, b):
    """The entry for batch b of a row whose right heads have these cells of each batch."""
    p, k, _ = ground
    for c in sorted(cells):
        factors = clash_factors(p, k, equations_of(k, weights, cells[c]))
        if factors is not None:
            return ("no", c, factors)
    return ("is", unit_factors(p, k, equations_of(k, weights, cells[b])))


def told_paper(ground, book, stand, reading, b):
    """A paper that the reading tells batch b."""
    if read(ground, book, stand, reading, b)[0] != "told":
        raise Open(0)
    weights = cell_weights(ground)
    known = {}
    paper = []
    for row in book:
        shelf = far_shelf(row, stand, reading)
        lengths = right_lengths(row, reading)
        if shelf is None and lengths not in known:
            known[lengths] = entry_in(ground, weights, cells_by_batch(reading, lengths), b)
        paper.append(known[lengths] if shelf is None else ("far", shelf))
    return tuple(paper)
