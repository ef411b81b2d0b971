"""Layings: layouts of one batch that are given by tables ([10] to [10.4])."""

from firstsafe.errors import BadLaying, NotSo
from firstsafe.forms import value
from firstsafe.grounds import made_lengths
from firstsafe.kinds import number_between, numbers_fit, tuple_fault, tuple_fits
from firstsafe.limits import MOST_COLUMNS, MOST_LAYING_BASE, MOST_LAYING_BATCHES, MOST_LAYING_NUMBERS, MOST_SHELVES
from firstsafe.safety import check_rules, heads_of
from firstsafe.shares import shares


def many_batches(q, k):
    """How many batches of k numbers below q there are."""
    many = 1
    for _ in range(k):
        many *= q
    return many


def numbers_fit_base(q, k):
    """True if k numbers below q are few enough for tables; q is from 2 on."""
    return number_between(k, 1, MOST_LAYING_NUMBERS) and many_batches(q, k) <= MOST_LAYING_BATCHES


def columns_fit(q, many, thing):
    """True for a tuple of at most 8 columns."""
    return tuple_fits(thing, 0, MOST_COLUMNS, lambda column: numbers_fit(column, many, many, q - 1))


def laying_fault(thing):
    """What BadLaying is to tell of the thing, None for a laying."""
    if not isinstance(thing, tuple) or len(thing) != 3:
        return -1
    q, k, tables = thing
    if not number_between(q, 2, MOST_LAYING_BASE):
        return 0
    if not numbers_fit_base(q, k):
        return 1
    many = many_batches(q, k)
    fault = tuple_fault(tables, 1, MOST_SHELVES, lambda columns: columns_fit(q, many, columns))
    if fault is None:
        return None
    return 2 if fault == -1 else (2, fault)


def made_laying(thing):
    """The laying, or BadLaying."""
    fault = laying_fault(thing)
    if fault is not None:
        raise BadLaying(fault)
    return thing


def is_laying(thing):
    """True for a laying; a judge."""
    return laying_fault(thing) is None


def batch_with(q, k, x):
    """The batch with the number x: its k digits to the base q, the highest one first."""
    digits = []
    for _ in range(k):
        digits.append(x % q)
        x //= q
    return tuple(digits[::-1])


def laying_of(ground, lengths):
    """The laying of the ground with so many columns for each shelf, or NotSo."""
    made_lengths(ground, lengths)
    p, k, points = ground
    if p > MOST_LAYING_BASE or not numbers_fit_base(p, k) or max(lengths) > MOST_COLUMNS:
        raise NotSo(0)
    batches = [batch_with(p, k, x) for x in range(many_batches(p, k))]
    tables = []
    for point, length in zip(points, lengths):
        tables.append(tuple([tuple([value(p, batch, point, j) for batch in batches]) for j in range(length)]))
    return (p, k, tuple(tables))


def first_columns_of(laying, lengths):
    """The first columns of all shelves, as many as the lengths tell."""
    return [column for columns, length in zip(laying[2], lengths) for column in columns[:length]]


def first_equal(laying, lengths):
    """The least two batches (x, y) that are equal in the first columns of these lengths, None if no two are."""
    columns = first_columns_of(laying, lengths)
    if not columns:
        return (0, 1)
    seen = {}
    pairs = []
    for y, entries in enumerate(zip(*columns)):
        if entries in seen:
            pairs.append((seen[entries], y))
        else:
            seen[entries] = y
    return min(pairs, default=None)


def laying_doubt(laying, book, told):
    """None if the laying is safe for the book, otherwise its least doubt (i, j, x, y)."""
    made_laying(laying)
    check_rules(len(laying[2]), book, told)
    equals = {}
    for i, one in enumerate(book):
        for j, two in enumerate(book):
            heads = heads_of(one, two, told, laying[2])
            if heads not in equals:
                equals[heads] = first_equal(laying, heads)
            pair = equals[heads]
            if pair is not None:
                return (i, j, pair[0], pair[1])
    return None


def laying_safe(laying, book, told):
    """True if the laying is safe for the book."""
    return laying_doubt(laying, book, told) is None


def first_blind(laying):
    """The least (lengths, x, y) that shows that the laying is blind at lengths, None if it is blind at none."""
    made_laying(laying)
    for lengths in shares([len(columns) for columns in laying[2]], laying[1]):
        pair = first_equal(laying, lengths)
        if pair is not None:
            return (lengths, pair[0], pair[1])
    return None
