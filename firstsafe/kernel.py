"""Judges of doubts, papers and locators: each asks just what the document says, however the thing was made."""

from firstsafe.books import allows, is_book
from firstsafe.forms import value, value_weights
from firstsafe.grounds import is_batch, is_ground, shelves
from firstsafe.heads import far_from, right_lengths
from firstsafe.kinds import number_between, numbers_fit, tuple_fits
from firstsafe.layings import first_columns_of, is_laying, many_batches
from firstsafe.locating import has_room
from firstsafe.matrices import unit
from firstsafe.rows import shelf_fits
from firstsafe.safety import heads_of, is_told
from firstsafe.stops import short_shelf, stop_fault, stopped
from firstsafe.tails import is_torn_bound, rows_fault
from firstsafe.tapes import cells_by_batch, is_batch_number, is_reading, is_weaving
from firstsafe.worlds import world_of


def is_tuple_of(many, thing):
    """True for a tuple of so many items."""
    return isinstance(thing, tuple) and len(thing) == many


def is_manner(ground, book):
    """True for a ground and a book for its shelves."""
    return is_ground(ground) and is_book(shelves(ground), book)


def doubt_fits(ground, book, thing):
    """True for a tuple of the form of a doubt."""
    if not is_tuple_of(7, thing):
        return False
    i, j, one, two, first, second, other = thing
    if not number_between(i, 0, len(book) - 1) or not number_between(j, 0, len(book) - 1):
        return False
    if not is_batch(ground, one) or not is_batch(ground, two) or one == two:
        return False
    return stop_fault(ground, first) is None and stop_fault(ground, second) is None and is_weaving(ground, other)


def doubt_right(ground, book, told, weaving, b, thing):
    """True if the thing is a doubt of batch b ([6.5]); a judge."""
    if not is_manner(ground, book) or not is_told(told) or not is_weaving(ground, weaving):
        return False
    if not is_batch_number(b) or not doubt_fits(ground, book, thing):
        return False
    i, j, one, two, first, second, other = thing
    if told and other != weaving:
        return False
    if short_shelf(weaving, first) is not None or short_shelf(other, second) is not None:
        return False
    if not allows(book[i], first) or not allows(book[j], second):
        return False
    world, other_world = world_of(ground, weaving, b, one), world_of(ground, other, b, two)
    return stopped(ground, world, first) == stopped(ground, other_world, second)


def combination(ground, cells, factors):
    """The sums of the weights and of the right sides of the cells' equations, each times its factor."""
    p, k, points = ground
    weights, right = (0,) * k, 0
    for (shelf, j, number), factor in zip(cells, factors):
        if factor:
            line = value_weights(p, k, points[shelf], j)
            weights = tuple([(a + factor * weight) % p for a, weight in zip(weights, line)])
            right = (right + factor * number) % p
    return (weights, right)


def batch_shown(ground, cells, batch, rows):
    """True if the rows of factors over the cells of the batch give its numbers, one after the other."""
    p, k, _ = ground
    if not tuple_fits(rows, k, k, lambda factors: numbers_fit(factors, len(cells), len(cells), p - 1)):
        return False
    for t, factors in enumerate(rows):
        if combination(ground, cells, factors) != (unit(k, t), batch[t]):
            return False
    return True


def clash_shown(ground, by_batch, c, factors):
    """True if the factors over the cells of batch c show that its equations clash."""
    if not is_batch_number(c):
        return False
    cells = by_batch.get(c, [])
    if not numbers_fit(factors, len(cells), len(cells), ground[0] - 1):
        return False
    weights, right = combination(ground, cells, factors)
    return not any(weights) and right != 0


def far_shown(ground, row, stand, reading, shelf):
    """True if the shelf shows that the row left no such reading of the weaving as it stood."""
    return stand is not None and shelf_fits(ground, shelf) and far_from(row[shelf], stand[shelf], reading[shelf])


def entry_shown(ground, row, stand, reading, b, batch, entry):
    """True if the entry for this row of the book is right."""
    if not isinstance(entry, tuple) or len(entry) < 2:
        return False
    if entry[0] == "far" and len(entry) == 2:
        return far_shown(ground, row, stand, reading, entry[1])
    by_batch = cells_by_batch(reading, right_lengths(row, reading))
    if entry[0] == "is" and len(entry) == 2:
        return batch_shown(ground, by_batch.get(b, []), batch, entry[1])
    if entry[0] == "no" and len(entry) == 3:
        return clash_shown(ground, by_batch, entry[1], entry[2])
    return False


def told_right(ground, book, stand, reading, b, batch, paper):
    """True if the paper shows that the reading tells the batch as batch b ([7.3]); a judge."""
    if not is_manner(ground, book) or not is_reading(ground, reading):
        return False
    if stand is not None and not is_weaving(ground, stand):
        return False
    if not is_batch_number(b) or not is_batch(ground, batch) or not is_tuple_of(len(book), paper):
        return False
    for row, entry in zip(book, paper):
        if not entry_shown(ground, row, stand, reading, b, batch, entry):
            return False
    return any([entry[0] == "is" for entry in paper])


def locator_fits(ground, w, thing):
    """True for a pair (E, F) of the form of a locator."""
    p, k, _ = ground
    if not is_tuple_of(2, thing):
        return False
    E, F = thing
    return numbers_fit(E, w + 1, w + 1, p - 1) and any(E) and numbers_fit(F, w + k, w + k, p - 1)


def locates(p, E, F, point, numbers):
    """True if E and F keep the equations of all cells of one shelf."""
    series = [value(p, E, point, i) for i in range(len(numbers))]
    for j in range(len(numbers)):
        total = sum([series[i] * numbers[j - i] for i in range(j + 1)])
        if value(p, F, point, j) != total % p:
            return False
    return True


def locator_right(ground, rows, w, thing):
    """True if the thing is a locator (E, F) of the rows for w torn cells ([8.4]); a judge."""
    if not is_ground(ground) or rows_fault(ground, rows) is not None or not is_torn_bound(w):
        return False
    if not has_room(ground, rows, w) or not locator_fits(ground, w, thing):
        return False
    p, _, points = ground
    return all([locates(p, thing[0], thing[1], point, numbers) for point, numbers in zip(points, rows)])


def are_equal(laying, lengths, x, y):
    """True if x and y are the numbers of two batches, x < y, that are equal in the first columns of these lengths."""
    many = many_batches(laying[0], laying[1])
    if not number_between(x, 0, many - 1) or not number_between(y, 0, many - 1) or x >= y:
        return False
    return all([column[x] == column[y] for column in first_columns_of(laying, lengths)])


def laying_doubt_right(laying, book, told, thing):
    """True if the thing is a doubt (i, j, x, y) of the laying ([10.2]); a judge."""
    if not is_laying(laying) or not is_book(len(laying[2]), book) or not is_told(told) or not is_tuple_of(4, thing):
        return False
    i, j, x, y = thing
    if not number_between(i, 0, len(book) - 1) or not number_between(j, 0, len(book) - 1):
        return False
    return are_equal(laying, heads_of(book[i], book[j], told, laying[2]), x, y)


def blind_right(laying, thing):
    """True if the thing (lengths, x, y) shows that the laying is blind at these lengths ([10.3]); a judge."""
    if not is_laying(laying) or not is_tuple_of(3, thing):
        return False
    lengths, x, y = thing
    if not is_tuple_of(len(laying[2]), lengths):
        return False
    if not all([number_between(length, 0, len(columns)) for length, columns in zip(lengths, laying[2])]):
        return False
    return sum(lengths) == laying[1] and are_equal(laying, lengths, x, y)
