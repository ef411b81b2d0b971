"""Which kind of value something is. Nothing here raises an error, whatever is asked about."""


def is_number(thing):
    """True for an int that is neither True nor False."""
    return isinstance(thing, int) and not isinstance(thing, bool)


def number_between(thing, least, most):
    """True for a number from `least` to `most`."""
    return is_number(thing) and least <= thing <= most


def is_pair(thing):
    """True for a tuple of two items."""
    return isinstance(thing, tuple) and len(thing) == 2


def tuple_fault(thing, least, most, fits):
    """None for a tuple of `least` to `most` items that all fit.

    Otherwise -1 if it is no tuple of so many items, or the index of the first item that does not fit.
    """
    if not isinstance(thing, tuple) or not least <= len(thing) <= most:
        return -1
    for index, item in enumerate(thing):
        if not fits(item):
            return index
    return None


def unlike_tuple_fault(thing, least, most, fits):
    """As `tuple_fault`, and an item does not fit either if it equals an earlier one."""
    fault = tuple_fault(thing, least, most, fits)
    if fault == -1:
        return -1
    right = thing if fault is None else thing[:fault]
    for index, item in enumerate(right):
        if item in right[:index]:
            return index
    return fault


def tuple_fits(thing, least, most, fits):
    """True for a tuple of `least` to `most` items that all fit."""
    return tuple_fault(thing, least, most, fits) is None


def numbers_fit(thing, least, most, greatest):
    """True for a tuple of `least` to `most` numbers from 0 to `greatest`."""
    return tuple_fits(thing, least, most, lambda number: number_between(number, 0, greatest))
