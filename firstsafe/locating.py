"""Finding a locator of rows by linear equations ([8.4]). Nothing is checked here."""

from firstsafe.forms import value_weights
from firstsafe.matrices import kernel_of


def has_room(ground, rows, w):
    """True if there are enough cells for a locator: 2 * w + k at the least."""
    return 2 * w + ground[1] <= sum([len(numbers) for numbers in rows])


def locator_line(p, shifts, weights, numbers, j):
    """How much each number of E and then each number of F counts in the equation of the cell j of a shelf.

    `shifts` are the weights of the values 0, 1, 2 and so on of E, `weights` are those of the value j of F.
    """
    line = [0] * len(shifts)
    for i, shift in enumerate(shifts[:j + 1]):
        line = [(a + b * numbers[j - i]) % p for a, b in zip(line, shift)]
    return tuple(line + [-weight % p for weight in weights])


def locator_lines(ground, rows, w):
    """The equations of all cells for the numbers of E and F."""
    p, k, points = ground
    found = []
    for point, numbers in zip(points, rows):
        # Only the first w + 1 values of E can be other than 0.
        shifts = [value_weights(p, w + 1, point, i) for i in range(w + 1)]
        for j in range(len(numbers)):
            found.append(locator_line(p, shifts, value_weights(p, w + k, point, j), numbers, j))
    return tuple(found)


def found_locator(ground, rows, w):
    """A locator (E, F) of the rows, which have room for it, or None.

    E is never all zeros here: F would have more zeros than its degree, so it would have only zeros, too.
    """
    ways = kernel_of(locator_lines(ground, rows, w), 2 * w + 1 + ground[1], ground[0])
    if not ways:
        return None
    return (ways[0][:w + 1], ways[0][w + 1:])
