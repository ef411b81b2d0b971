"""Bounds on numbers of cells: a number, or None for no bound, which is above all numbers ([0.1], [4])."""


def at_most(one, two):
    """True if the bound `one` is at most the bound `two`."""
    return two is None or (one is not None and one <= two)


def lesser(one, two):
    """The lesser one of two bounds."""
    return one if at_most(one, two) else two


def greater(one, two):
    """The greater one of two bounds."""
    return two if at_most(one, two) else one
