"""Which batches are safe: however a row of the book befalls the shelves, a reader can tell them ([6] to [6.4])."""

from firstsafe.books import made_book
from firstsafe.bounds import greater, lesser
from firstsafe.errors import BadTold
from firstsafe.grounds import shelves
from firstsafe.limits import MOST_BATCHES
from firstsafe.tapes import made_batch_number, made_weaving


def is_told(thing):
    """True for True and False alone; 1 and 0 are neither."""
    return thing is True or thing is False


def check_rules(many, book, told):
    """Raises what is wrong with the book for so many shelves or with `told`, in this order."""
    made_book(many, book)
    if not is_told(told):
        raise BadTold(told)


def check_manner(ground, book, told):
    """Raises what is wrong with the ground, the book or `told`, in this order."""
    check_rules(shelves(ground), book, told)


def check_written(ground, book, told, weaving, b):
    """Raises what is wrong with the arguments of a question about one batch, in their order."""
    check_manner(ground, book, told)
    made_weaving(ground, weaving)
    made_batch_number(b)


def bounds_of(one, two, told):
    """U and V of two fates of one shelf, the first one being of P and the second one of Q."""
    gone = lesser(one[0], two[0]) if told else one[0]
    return (gone, greater(one[1], two[1]))


def delay_of(bounds):
    """How many cells must lie behind a cell for it to be in the common head, None if it never is."""
    gone, wrong = bounds
    return None if gone is None or wrong is None else gone + wrong


def head_length(bounds, many):
    """How many of so many cells are in the common head."""
    delay = delay_of(bounds)
    return 0 if delay is None else max(0, many - delay)


def heads_of(one, two, told, weaving):
    """How many cells the common head of two rows has, for each tape."""
    return tuple([head_length(bounds_of(fate, other, told), len(tape)) for fate, other, tape in zip(one, two, weaving)])


def counts_of(weaving, b):
    """For each tape, at index m, how many of its first m entries are b."""
    found = []
    for tape in weaving:
        counts = [0]
        for entry in tape:
            counts.append(counts[-1] + (1 if entry == b else 0))
        found.append(counts)
    return found


def many_in(heads, counts):
    """How many cells of a batch are in the common heads."""
    return sum([counted[length] for counted, length in zip(counts, heads)])


def unlike_heads(book, told, weaving):
    """The lengths of the common heads of all pairs of rows, equal ones once."""
    found = {}
    for one in book:
        for two in book:
            found[heads_of(one, two, told, weaving)] = True
    return list(found)


def reaches(k, heads, weaving, b):
    """True if at least k cells of batch b are in the common heads of each pair of rows."""
    counts = counts_of(weaving, b)
    return all([many_in(lengths, counts) >= k for lengths in heads])


def sums(ground, book, told, weaving, b):
    """The sums of batch b: for each row as P and each row as Q, its number of cells in their common heads."""
    check_written(ground, book, told, weaving, b)
    counts = counts_of(weaving, b)
    return tuple([tuple([many_in(heads_of(one, two, told, weaving), counts) for two in book]) for one in book])


def safe(ground, book, told, weaving, b):
    """True if batch b is safe."""
    check_written(ground, book, told, weaving, b)
    return reaches(ground[1], unlike_heads(book, told, weaving), weaving, b)


def done(ground, book, told, weaving):
    """The numbers of all safe batches, ascending."""
    check_manner(ground, book, told)
    made_weaving(ground, weaving)
    heads = unlike_heads(book, told, weaving)
    return tuple([b for b in range(MOST_BATCHES) if reaches(ground[1], heads, weaving, b)])


def leave_a_shelf(one, two, told):
    """True if there is a shelf at which neither U nor V of the two rows is None."""
    return any([None not in bounds_of(fate, other, told) for fate, other in zip(one, two)])


def bearable(ground, book, told):
    """True if every two rows of the book leave a shelf to be relied on."""
    check_manner(ground, book, told)
    return all([leave_a_shelf(one, two, told) for one in book for two in book])
