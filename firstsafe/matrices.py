"""Rows of numbers modulo a prime ([1.1]). Nothing is checked here."""

from firstsafe.primes import inverse


def unit(many, place):
    """Zeros, but a 1 at the place."""
    return (0,) * place + (1,) + (0,) * (many - place - 1)


def first_row(rows, start, column):
    """The index, from `start` on, of the first row with a number other than 0 in the column, or None."""
    for index in range(start, len(rows)):
        if rows[index][column]:
            return index
    return None


def with_first_one(row, column, p):
    """The multiple of the row that has 1 in the column."""
    factor = inverse(row[column], p)
    return tuple([a * factor % p for a in row])


def cleared(row, head, column, p):
    """The row less the multiple of `head` that leaves 0 in the column; `head` has 1 there."""
    factor = row[column]
    if factor == 0:
        return row
    return tuple([(a - factor * b) % p for a, b in zip(row, head)])


def reduced(rows, many, p):
    """The rows in reduced form."""
    left = list(rows)
    found = 0
    for column in range(many):
        index = first_row(left, found, column)
        if index is None:
            continue
        head = with_first_one(left[index], column, p)
        others = left[:index] + left[index + 1:]
        left = [cleared(row, head, column, p) for row in others]
        left.insert(found, head)
        found += 1
    return tuple(left[:found])


def first_columns(rows):
    """For each row of a reduced form, the column of its first number that is not 0."""
    return [[column for column, a in enumerate(row) if a][0] for row in rows]


def kernel_of(rows, many, p):
    """One row for each column that holds no first number of the reduced form ([1.1])."""
    heads = reduced(rows, many, p)
    columns = first_columns(heads)
    found = []
    for free in range(many):
        if free in columns:
            continue
        way = [0] * many
        way[free] = 1
        for head, column in zip(heads, columns):
            way[column] = -head[free] % p
        found.append(tuple(way))
    return tuple(found)
