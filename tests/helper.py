"""What the tests of all modules share."""

import doctest
import random
from functools import lru_cache
from itertools import product

from firstsafe.books import allows
from firstsafe.charters import is_charter
from firstsafe.figures import image
from firstsafe.forms import value
from firstsafe.grounds import made_batch
from firstsafe.moves import Move
from firstsafe.rows import equation, row
from firstsafe.stops import made_stop, stopped
from firstsafe.tapes import cells_of, made_weaving, written


def same(case, got, wanted):
    """Equal, and of equal kinds at every depth: 1 is not True, a list is not a tuple."""
    case.assertEqual(repr(got), repr(wanted))


def refuses(case, error, what, call, *arguments, **named):
    """The call raises exactly this error with exactly this `what`."""
    with case.assertRaises(error) as caught:
        call(*arguments, **named)
    case.assertIs(type(caught.exception), error)
    same(case, caught.exception.what, what)


def nested(depth, core=1):
    """The core in as many tuples."""
    for _ in range(depth):
        core = (core,)
    return core


# Values that are no tuple of anything that the package knows, and no number within any bound.
STRANGE = (
    None, True, False, "", "1", "abc", "(1, 2)", -1, 10 ** 100, -(10 ** 100), (), ((),), (None,), (True, False),
    ("a", "b", "c"), [], [1, 2, 3], {}, b"", 0.5, object, nested(20), nested(20, ()), (nested(19), "x", None),
)

# What may stand in the place of a number and is none.
NO_NUMBERS = (True, False, "1", "", (), (1,), [1], b"1", 1.0, nested(18))

# What may stand in the place of a tuple and is none.
NO_TUPLES = (None, True, False, 0, 1, "", "ab", {})


def spoiled(thing, more=(None,)):
    """The thing with one part of it, itself included, replaced by something of another kind.

    `more` stands in the place of numbers, besides what is never a number.
    """
    if not isinstance(thing, tuple):
        yield from NO_NUMBERS + tuple(more)
        return
    yield list(thing)
    yield from NO_TUPLES
    for index, item in enumerate(thing):
        for wrong in spoiled(item, more):
            yield thing[:index] + (wrong,) + thing[index + 1:]


def bent(thing):
    """The thing with one part of it changed into another one of the same kind."""
    if isinstance(thing, str):
        yield from [word for word in ("is", "no", "far", "") if word != thing]
    elif isinstance(thing, tuple):
        if thing:
            yield thing[:-1]
            yield thing + thing[-1:]
        for at in range(1, len(thing)):
            if thing[at - 1] != thing[at]:
                yield thing[:at - 1] + (thing[at], thing[at - 1]) + thing[at + 1:]
        for at, item in enumerate(thing):
            for other in bent(item):
                yield thing[:at] + (other,) + thing[at + 1:]
    else:
        yield thing + 1
        yield thing - 1


def judged(case, judge, arguments, at, wanted):
    """What the judge says of each bent form of the argument number `at`; `wanted` tells what it should say."""
    said = {True: 0, False: 0}
    for other in bent(arguments[at]):
        answer = judge(*arguments[:at], other, *arguments[at + 1:])
        same(case, answer, wanted(other))
        said[answer] += 1
    return said


def judged_false(case, judge, arguments, wrong):
    """The judge says False of each wrong form of each argument; `wrong` has them for each argument."""
    same(case, judge(*arguments), True)
    for at, things in enumerate(wrong):
        for thing in things:
            same(case, judge(*arguments[:at], thing, *arguments[at + 1:]), False)


def runs_as_shown(case, text):
    """Runs the `>>>` lines of the text and compares what they print, word for word."""
    shown = doctest.DocTestParser().get_doctest(text, {}, "example", None, 0)
    case.assertTrue(shown.examples)
    report = []
    doctest.DocTestRunner(verbose=False).run(shown, out=report.append)
    case.assertEqual("".join(report), "")


def batches_of(p, k):
    """All batches of k numbers below p."""
    return list(product(range(p), repeat=k))


def lengths_of(many, total):
    """All tuples of `many` numbers from 0 on with this sum."""
    if many == 0:
        return [()] if total == 0 else []
    return [(first,) + others for first in range(total + 1) for others in lengths_of(many - 1, total - first)]


FINE = (0, 0)
TOLD = (False, True)


def head(one, two, told, many):
    """The length of the common head as [6.1] tells it, of the fates of P and Q on a tape of so many cells."""
    high = 10 ** 6
    u, v, other_u, other_v = [high if bound is None else bound for bound in one + two]
    gone = min(u, other_u) if told else u
    return max(many - gone - max(v, other_v), 0)


def plain_sums(book, told, weaving, b):
    """The sums as [6.2] tells them."""
    return tuple(tuple(sum(tape[:head(one[shelf], two[shelf], told, len(tape))].count(b)
                           for shelf, tape in enumerate(weaving)) for two in book) for one in book)


def some_book(chance, many, most):
    """A book by chance."""
    return tuple(tuple((chance.choice((0, 0, 1, 2, 5, None)), chance.choice((0, 0, 0, 1, 3, None))) for _ in range(many))
                 for _ in range(chance.randint(1, most)))


def some_weaving(chance, many, most):
    """A weaving by chance, with many cells of few batches."""
    return tuple(tuple(chance.choice((0, 0, 1, 7, 63)) for _ in range(chance.randint(0, most))) for _ in range(many))


def some_cases(seed, times):
    """A ground, a book, `told` and a weaving, by chance."""
    chance = random.Random(seed)
    for _ in range(times):
        many = chance.randint(1, 4)
        ground = (5, chance.randint(1, 4), (0, 5, 2, 1)[:many])
        yield ground, some_book(chance, many, 5), chance.choice(TOLD), some_weaving(chance, many, 14)


@lru_cache(maxsize=None)
def left(ground, shelf, batches, tape, fate):
    """All that may lie on the shelf of such a tape behind such a fate."""
    rows = [row(ground, batch, shelf, 8) for batch in batches]
    cells = [(b, rows[b][tape[:at].count(b)]) for at, b in enumerate(tape)]
    found = set()
    for gone in range(0, len(cells) + 1 if fate[0] is None else min(fate[0], len(cells)) + 1):
        rest = cells[:len(cells) - gone]
        for many in range(0, len(rest) + 1 if fate[1] is None else min(fate[1], len(rest)) + 1):
            for wrong in product(product(range(len(batches)), range(ground[0])), repeat=many):
                found.add(tuple(rest[:len(rest) - many]) + wrong)
    return frozenset(found)


@lru_cache(maxsize=None)
def left_of_any(ground, shelf, batches, fate, longest):
    """All that may lie on the shelf behind such a fate, of whatever tape."""
    tapes = [tape for many in range(longest + 1) for tape in product(range(len(batches)), repeat=many)]
    return frozenset().union(*[left(ground, shelf, batches, tape, fate) for tape in tapes])


def some_stop(chance, ground, fates, reading):
    """A stop of the reading that the row allows, by chance."""
    stop = []
    for (u, v), cells in zip(fates, reading):
        gone = chance.randint(0, len(cells) if u is None else min(u, len(cells)))
        rest = len(cells) - gone
        many = chance.randint(0, rest if v is None else min(v, rest))
        stop.append((gone, tuple((chance.choice((0, 0, 1)), chance.randrange(ground[0])) for _ in range(many))))
    return tuple(stop)


def some_readings(seed, times):
    """As `some_cases`, and besides some batches and what a stop that the book allows leaves of them."""
    chance = random.Random(seed)
    for ground, book, told, weaving in some_cases(seed, times):
        p, k, _ = ground
        batches = tuple(tuple(chance.randrange(p) for _ in range(k)) for _ in range(64))
        reading = written(ground, batches, weaving)
        yield ground, book, told, weaving, batches, stopped(
            ground, reading, some_stop(chance, ground, chance.choice(book), reading))


def check_doubt(case, ground, book, told, weaving, b, thing):
    """The thing is a doubt of batch b by the words of [6.5]."""
    case.assertIs(type(thing), tuple)
    i, j, one, two, first, second, other = thing
    for index in (i, j):
        case.assertTrue(type(index) is int and 0 <= index < len(book))
    made_batch(ground, one)
    made_batch(ground, two)
    case.assertNotEqual(one, two)
    made_stop(ground, first)
    made_stop(ground, second)
    made_weaving(ground, other)
    if told:
        same(case, other, weaving)
    case.assertTrue(allows(book[i], first))
    case.assertTrue(allows(book[j], second))
    zeros = ((0,) * ground[1],) * 64
    # `stopped` refuses a stop for which a tape is too short.
    world = stopped(ground, written(ground, zeros[:b] + (one,) + zeros[b + 1:], weaving), first)
    other_world = stopped(ground, written(ground, zeros[:b] + (two,) + zeros[b + 1:], other), second)
    same(case, world, other_world)


def heads_right(fates, reading):
    """The lengths of the right heads, by the words of [7.1]."""
    return tuple(0 if v is None else max(0, len(cells) - v) for (_, v), cells in zip(fates, reading))


def is_far_at(fates, stand, reading, shelf):
    """True if the second condition of [7.1] fails at the shelf."""
    n, m, (u, _) = len(stand[shelf]), len(reading[shelf]), fates[shelf]
    right = heads_right(fates, reading)[shelf]
    return not (m <= n and (u is None or m >= n - u) and
                all(c == stand[shelf][at] for at, (c, _) in enumerate(reading[shelf][:right])))


def factors_give(ground, cells, factors):
    """The sums of the weights and of the right sides of the cells' equations, each times its factor, or None."""
    p, k, _ = ground
    if type(factors) is not tuple or len(factors) != len(cells):
        return None
    if not all(type(factor) is int and 0 <= factor < p for factor in factors):
        return None
    lines = [equation(ground, shelf, j) + (number,) for shelf, j, number in cells]
    return tuple(sum(factor * line[t] for factor, line in zip(factors, lines)) % p for t in range(k + 1))


def entry_is_right(ground, fates, stand, reading, b, batch, entry):
    """True if the entry of a paper is right by the words of [7.3]; its tuples may have any items."""
    k, lengths = ground[1], heads_right(fates, reading)
    if len(entry) == 2 and entry[0] == "is":
        cells = cells_of(ground, reading, lengths, b)
        return type(entry[1]) is tuple and len(entry[1]) == k and all(
            factors_give(ground, cells, factors) == tuple(int(place == t) for place in range(k)) + (batch[t],)
            for t, factors in enumerate(entry[1]))
    if len(entry) == 3 and entry[0] == "no" and type(entry[1]) is int and 0 <= entry[1] < 64:
        total = factors_give(ground, cells_of(ground, reading, lengths, entry[1]), entry[2])
        return total is not None and not any(total[:k]) and total[k] != 0
    if len(entry) == 2 and entry[0] == "far" and type(entry[1]) is int and 0 <= entry[1] < len(reading):
        return stand is not None and is_far_at(fates, stand, reading, entry[1])
    return False


def paper_is_right(ground, book, stand, reading, b, batch, paper):
    """True if the paper is right by the words of [7.3]."""
    return type(paper) is tuple and len(paper) == len(book) and all(
        type(entry) is tuple and entry_is_right(ground, fates, stand, reading, b, batch, entry)
        for fates, entry in zip(book, paper)) and any(entry[0] == "is" for entry in paper)


def torn_cells(ground, batch, rows):
    """How many cells are torn for the batch, by the words of [8.1]."""
    total = 0
    for shelf, numbers in enumerate(rows):
        right = row(ground, batch, shelf, len(numbers))
        differ = [j for j in range(len(numbers)) if numbers[j] != right[j]]
        total += len(numbers) - differ[0] if differ else 0
    return total


def few_torn(ground, rows, w):
    """All batches for which at most w cells are torn."""
    return [batch for batch in batches_of(ground[0], ground[1]) if torn_cells(ground, batch, rows) <= w]


def torn_rows(chance, ground, batch, lengths, most):
    """Rows of these lengths of which about so many last cells of the batch's rows hold anything."""
    rows = [list(row(ground, batch, shelf, length)) for shelf, length in enumerate(lengths)]
    for _ in range(most):
        shelf = chance.randrange(len(rows))
        cut = chance.randint(0, min(most, len(rows[shelf])))
        rows[shelf][len(rows[shelf]) - cut:] = [chance.randrange(ground[0]) for _ in range(cut)]
        most -= cut
    return tuple(map(tuple, rows))


def is_locator(ground, rows, w, E, F):
    """True if E and F are a locator by the words of [8.4]."""
    p, k, points = ground
    if len(E) != w + 1 or len(F) != w + k or not any(E) or not all(0 <= number < p for number in E + F):
        return False
    return all(value(p, F, point, j) == sum(value(p, E, point, i) * numbers[j - i] for i in range(j + 1)) % p
               for point, numbers in zip(points, rows) for j in range(len(numbers)))


def equal_batches(laying, lengths, x, y):
    """True if two batches of the laying are equal in the first columns of these lengths."""
    return all(column[x] == column[y] for columns, length in zip(laying[2], lengths) for column in columns[:length])


def laying_heads(laying, one, two, told):
    """The lengths of the common heads of two rows of a book at the shelves of a laying."""
    return [head(fate, other, told, len(columns)) for fate, other, columns in zip(one, two, laying[2])]


def some_laying(chance, q, k, shelves, most):
    """A laying by chance, whose columns often hold what a number of the batch tells."""
    many = q ** k
    tables = []
    for _ in range(shelves):
        columns = []
        for _ in range(chance.randint(0, most)):
            place, turn = chance.randrange(k), chance.randrange(q)
            numbers = [(x // q ** place + turn) % q for x in range(many)]
            if chance.random() < 0.4:
                numbers[chance.randrange(many)] = chance.randrange(q)
            columns.append(tuple(numbers))
        tables.append(tuple(columns))
    return (q, k, tuple(tables))


def some_fates(chance, shelves, most):
    """A small book by chance, for few cells on each shelf."""
    return tuple(tuple((chance.choice((0, 0, 0, 1, 2, None)), chance.choice((0, 0, 0, 0, 1, None)))
                       for _ in range(shelves)) for _ in range(chance.randint(1, most)))


def signs_changed(text, signs):
    """The text with one sign left out, doubled, put in or exchanged for one of the signs."""
    for at in range(len(text)):
        yield text[:at] + text[at + 1:]
        yield text[:at] + text[at] + text[at:]
        for sign in signs:
            if sign != text[at]:
                yield text[:at] + sign + text[at + 1:]
    for at in range(len(text) + 1):
        for sign in signs:
            yield text[:at] + sign + text[at:]


def tapes_on(device):
    """All tapes of the device that have cells."""
    return tuple((volume, point, device.tape(volume, point)) for volume in device.volumes() for point in device.points()
                 if device.tape(volume, point))


SIGNS = "abcdefghijklmnopqrstuvwxyz0123456789"


def some_name(chance):
    """A name of the store by chance, often one of a few."""
    if chance.random() < 0.6:
        return chance.choice(("a", "b", "ba", "b9", "z", "0", "9", "99", "999999"))
    return "".join(chance.choice(SIGNS) for _ in range(chance.randint(1, 6)))


def some_row(chance, p):
    """A row of the store by chance."""
    return tuple(chance.choice((0, 1, 35, p - 1, chance.randrange(p))) for _ in range(chance.choice((0, 0, 1, 2, 3, 5))))


def some_state(chance, p, most):
    """A state by chance."""
    names = {some_name(chance) for _ in range(chance.randint(0, most))}
    return tuple((name, some_row(chance, p)) for name in sorted(names, key=lambda name: [SIGNS.index(sign) for sign in name]))


def state_with(many):
    """A state with just so many figures, 0 or at least 3."""
    state = ()
    while len(image(state)) < many:
        rest = many - len(image(state))
        state += ((SIGNS[len(state)], (7,) * ((rest if rest <= 43 else min(43, rest - 3)) - 3)),)
    return state


def figures_changed(figures, others):
    """The figures with one of them left out, doubled or exchanged for another one."""
    for at in range(len(figures)):
        yield figures[:at] + figures[at + 1:]
        yield figures[:at + 1] + figures[at:]
        for other in set(others) | {figures[at] - 1, figures[at] + 1}:
            if other != figures[at]:
                yield figures[:at] + (other,) + figures[at + 1:]


def some_deed(chance, p):
    """A deed by chance."""
    word = chance.choice(("put", "put", "put", "drop", "move", "swap"))
    if word == "put":
        return (word, some_name(chance), some_row(chance, p))
    if word == "drop":
        return (word, some_name(chance))
    return (word, some_name(chance), some_name(chance))


def some_group(chance, p, most):
    """A group by chance."""
    return tuple(some_deed(chance, p) for _ in range(chance.randint(1, most)))


# A book that loses any one of three shelves, or nothing.
LOSE_ANY = (((0, 0),) * 3, ((None, 0), FINE, FINE), (FINE, (None, 0), FINE), (FINE, FINE, (None, 0)))
CHARTER = ((41, 3, (0, 1, 2)), LOSE_ANY)


def some_charter(chance, points, k, most):
    """A charter by chance, for some of the points."""
    while True:
        many = chance.randint(1, len(points))
        book = tuple(tuple((chance.choice((0, 0, 0, 1, 3, None)), chance.choice((0, 0, 0, 1, 2, None))) for _ in range(many))
                     for _ in range(chance.randint(1, most)))
        charter = ((41, k, tuple(chance.sample(points, many))), book)
        if is_charter(charter):
            return charter


class PlainVolume:
    """What a Move or Store writes into a volume, reckoned anew from the words of [15.1] each time."""

    def __init__(self, charter, batches):
        self.ground, self.book = charter
        self.batches = list(batches)
        self.tapes = {point: [] for point in self.ground[2]}
        self.left_alone = set()

    def weaving(self):
        """The weaving of all cells that were written."""
        return tuple(tuple(b for b, _ in self.tapes[point]) for point in self.ground[2])

    def is_safe(self, b):
        """True if batch b is safe."""
        return min(map(min, plain_sums(self.book, False, self.weaving(), b))) >= self.ground[1]

    def safe_many(self):
        """The least number that is not a safe batch."""
        return next((b for b in range(64) if not self.is_safe(b)), 64)

    def spare(self, point, unsafe):
        """How many spare cells lie on the tape, and how many there may be at the most."""
        shelf = self.ground[2].index(point)
        entries = [b for b, _ in self.tapes[point]]
        last = max([at for at, entry in enumerate(entries) if entry in unsafe
                    and entries[:at].count(entry) == self.ground[1] - 1])
        most = sum(max([row[shelf][part] for row in self.book if row[shelf][part] is not None], default=0) for part in (0, 1))
        return len(entries) - 1 - last, most

    def next_cell(self, point):
        """The cell that the shelf writes next, None if it writes nothing."""
        tape = self.tapes[point]
        if point in self.left_alone or len(tape) == 1024:
            return None
        unsafe = [b for b in range(len(self.batches)) if not self.is_safe(b)]
        for b in unsafe:
            j = [entry for entry, _ in tape].count(b)
            if j < self.ground[1]:
                return (b, row(self.ground, self.batches[b], self.ground[2].index(point), 64)[j])
        if not unsafe:
            return None
        spare, most = self.spare(point, unsafe)
        return (unsafe[0], 0) if spare < most else None

    def write(self, point):
        """The cell that the shelf writes; it stands on the tape then."""
        made = self.next_cell(point)
        if made is not None:
            self.tapes[point].append(made)
        return made


def write_all(writer, points, times=None):
    """Lets the shelves write in turn, until none of them writes any more or so many times; all cells written."""
    cells = []
    while times is None or times > 0:
        made = [(point, writer.write(point)) for point in points]
        cells += [(point, cell) for point, cell in made if cell is not None]
        if all(cell is None for _, cell in made):
            return cells
        times = None if times is None else times - 1
    return cells


def whole_store(device, charter=CHARTER, state=(), volume=0):
    """A Store of the state in a new volume."""
    move = Move(device, volume, charter, state)
    write_all(move, charter[0][2])
    return move.store()
