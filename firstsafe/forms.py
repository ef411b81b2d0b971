"""Forms: sums of f[t] * x ** t * y ** (n - 1 - t), and their values at points ([2])."""

from firstsafe.errors import BadForm, TooMany
from firstsafe.grounds import made_lengths
from firstsafe.limits import MOST_DEGREE
from firstsafe.primes import inverse


def powers(p, a, many):
    """The powers 0, 1, 2 and so on of a, modulo p."""
    found = [1]
    for _ in range(many - 1):
        found.append(found[-1] * a % p)
    return found


def later_weights(p, point, weights):
    """The weights of the value j + 1 at a point below p, from those of the value j.

    (point + s) ** t is point + s times the power t - 1, and so are their coefficients.
    """
    found = [0]
    for weight in weights[:-1]:
        found.append((point * found[-1] + weight) % p)
    return found


def value_weights(p, many, point, j):
    """How much each of `many` numbers of a form counts in its value j at the point."""
    if point == p:
        return tuple([1 if t == many - 1 - j else 0 for t in range(many)])
    if j >= many:
        return (0,) * many
    weights = powers(p, point, many)
    for _ in range(j):
        weights = later_weights(p, point, weights)
    return tuple(weights)


def value(p, form, point, j):
    """The value j of the form at the point."""
    weights = value_weights(p, len(form), point, j)
    return sum([a * weight for a, weight in zip(form, weights)]) % p


def times(p, f, g):
    """The product of two forms."""
    found = [0] * (len(f) + len(g) - 1)
    for i, a in enumerate(f):
        for t, b in enumerate(g):
            found[i + t] = (found[i + t] + a * b) % p
    return tuple(found)


def line(p, point):
    """The form of two numbers that is zero at the point."""
    if point == p:
        return (1, 0)
    return ((0 - point) % p, 1)


def product(ground, lengths):
    """The product of the shelves' lines, each taken as often as the lengths tell."""
    many = sum(made_lengths(ground, lengths))
    if many > MOST_DEGREE:
        raise TooMany(many)
    p, _, points = ground
    found = (1,)
    for point, length in zip(points, lengths):
        for _ in range(length):
            found = times(p, found, line(p, point))
    return found


def quotient(p, f, g):
    """The form h with times(p, h, g) == f, or None."""
    if not any(g):
        raise BadForm(1)
    if len(g) > len(f):
        return None
    low = [t for t, b in enumerate(g) if b][0]
    turn = inverse(g[low], p)
    others = g[low + 1:]
    found = []
    for a in f[low:low + len(f) - len(g) + 1]:
        known = sum([c * b for c, b in zip(found[::-1], others)])
        found.append((a - known) * turn % p)
    # Each number of h was found from one number of f; the remaining numbers of f may still disagree.
    return tuple(found) if times(p, found, g) == f else None
