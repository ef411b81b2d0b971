"""All errors of the package. Each keeps in `what` the one thing that it is about."""


class Refused(ValueError):
    """The base class of all other errors."""

    def __init__(self, what):
        self.what = what


class NoInverse(Refused):
    """The number has no inverse; what: the number."""


class BadGround(Refused):
    """The argument is not a ground; what: -1, or the index of the first bad part."""


class BadBatch(Refused):
    """The argument is not a batch; what: -1, or the index of the first bad number."""


class BadBatches(Refused):
    """The argument is not a tuple of batches; what: -1, or the index of the first bad one."""


class BadLengths(Refused):
    """The argument is not a tuple of lengths; what: -1, or the index of the first bad one."""


class TooMany(Refused):
    """There are more things than allowed; what: how many, or a place in a text."""


class BadForm(Refused):
    """The form cannot be used here; what: the place of the argument."""


class BadShelf(Refused):
    """There is no such shelf; what: the shelf."""


class BadPlace(Refused):
    """The place is out of range; what: the place."""


class BadWeaving(Refused):
    """The argument is not a weaving; what: -1, or the first bad shelf."""


class BadReading(Refused):
    """The argument is not a reading; what: -1, or the first bad shelf."""


class Missing(Refused):
    """A woven batch is not given; what: the least such batch number."""


class BadStop(Refused):
    """The argument is not a stop; what: -1, or the first bad shelf."""


class Short(Refused):
    """A tape has fewer cells than the stop needs; what: the first such shelf."""


class BadMany(Refused):
    """The number of shelves is out of range; what: the number."""


class BadBook(Refused):
    """The argument is not a book; what: -1, or the index of the first bad row."""


class BadNames(Refused):
    """The argument is not a tuple of names of shelves; what: -1, or the index of the first bad one."""


class BadText(Refused):
    """The text is not the written form of anything; what: the place of the first fault, or -1 or 0."""


class BadNumber(Refused):
    """The number is out of range; what: the number, or its place in a text."""


class NoName(Refused):
    """There is no such name; what: its place, or a pair of an index and the name."""


class Twice(Refused):
    """A name stands twice in one list; what: its place."""


class BadTold(Refused):
    """The argument is neither True nor False; what: the argument."""


class BadEvents(Refused):
    """The argument is not a tuple of events; what: -1, or the index of the first bad one."""


class Full(Refused):
    """There is no room for more; what: the shelf, or how many batches are lacking."""


class BadEquations(Refused):
    """The argument is not a tuple of equations; what: -1, or the index of the first bad one."""


class Open(Refused):
    """The batch is not told; what: 0."""


class BadRows(Refused):
    """The argument is not a tuple of rows; what: -1, or the first bad shelf."""


class NotSo(Refused):
    """The sizes do not allow this; what: 0."""


class BadLaying(Refused):
    """The argument is not a laying; what: -1, the index of the first bad part, or a pair of 2 and the bad shelf."""


class BadCharter(Refused):
    """The argument is not a charter that the store can use; what: 0, 1, 2 or 3, the rule that is broken."""


class Hopeless(Refused):
    """With this book no batch becomes safe; what: 0."""


class BadPoints(Refused):
    """The argument is not a tuple of points; what: -1, or the index of the first bad one."""


class BadVolume(Refused):
    """The argument is not the number of a volume; what: the argument."""


class NotAt(Refused):
    """The tape does not have this length; what: its length."""


class Long(Refused):
    """The tape is full; what: 1024."""


class BadCell(Refused):
    """The argument is not a cell; what: 0."""


class BadPoint(Refused):
    """There is no shelf with this point; what: the point."""


class BadTape(Refused):
    """The argument is not a tape; what: -1."""


class BadFigures(Refused):
    """The figures cannot be read; what: the index at which reading stops."""


class BadGroup(Refused):
    """The argument is not a group of deeds; what: -1, or the index of the first bad deed."""


class There(Refused):
    """There is a row of this name already; what: a pair of the deed's index and the name."""


class BadState(Refused):
    """The argument is not a state; what: 0."""


class TooGreat(Refused):
    """The state has too many figures; what: how many."""


class Old(Refused):
    """The number of the volume is not new; what: the number."""


class NotWhole(Refused):
    """The image is not whole yet; what: how many batches are safe."""


class Left(Refused):
    """The store or move has been left; what: 0."""


class BadCharters(Refused):
    """The argument is not a tuple of charters by volumes; what: -1, or the index of the first bad one."""


class NoCharter(Refused):
    """A volume has no charter; what: the number of the volume."""


class NoVolume(Refused):
    """No volume is whole; what: 0."""


class Damaged(Refused):
    """The figures of a volume cannot be read; what: the number of the volume."""
