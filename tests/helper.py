"""What the tests of all modules share."""

import doctest
from itertools import product


def same(case, got, wanted):
    """Equal, and of equal kinds at every depth: 1 is not True, a list is not a tuple."""
    case.assertEqual(repr(got), repr(wanted))


def refuses(case, error, what, call, *arguments, **named):
    """The call raises exactly this error with exactly this `what`."""
    with case.assertRaises(error) as caught:
        call(*arguments, **named)
    case.assertIs(type(caught.exception), error)
    same(case, caught.exception.what, what)


def nested(depth, core=1):
    """The core in as many tuples."""
    for _ in range(depth):
        core = (core,)
    return core


# Values that are no tuple of anything that the package knows, and no number within any bound.
STRANGE = (
    None, True, False, "", "1", "abc", "(1, 2)", -1, 10 ** 100, -(10 ** 100), (), ((),), (None,), (True, False),
    ("a", "b", "c"), [], [1, 2, 3], {}, b"", 0.5, object, nested(20), nested(20, ()), (nested(19), "x", None),
)

# What may stand in the place of a number and is none.
NO_NUMBERS = (True, False, "1", "", (), (1,), [1], b"1", 1.0, nested(18))

# What may stand in the place of a tuple and is none.
NO_TUPLES = (None, True, False, 0, 1, "", "ab", {})


def spoiled(thing, more=(None,)):
    """The thing with one part of it, itself included, replaced by something of another kind.

    `more` stands in the place of numbers, besides what is never a number.
    """
    if not isinstance(thing, tuple):
        yield from NO_NUMBERS + tuple(more)
        return
    yield list(thing)
    yield from NO_TUPLES
    for index, item in enumerate(thing):
        for wrong in spoiled(item, more):
            yield thing[:index] + (wrong,) + thing[index + 1:]


def runs_as_shown(case, text):
    """Runs the `>>>` lines of the text and compares what they print, word for word."""
    shown = doctest.DocTestParser().get_doctest(text, {}, "example", None, 0)
    case.assertTrue(shown.examples)
    report = []
    doctest.DocTestRunner(verbose=False).run(shown, out=report.append)
    case.assertEqual("".join(report), "")


def batches_of(p, k):
    """All batches of k numbers below p."""
    return list(product(range(p), repeat=k))


def lengths_of(many, total):
    """All tuples of `many` numbers from 0 on with this sum."""
    if many == 0:
        return [()] if total == 0 else []
    return [(first,) + others for first in range(total + 1) for others in lengths_of(many - 1, total - first)]
