"""The figures of groups of deeds ([19.5], [19.7])."""

from firstsafe.deeds import DROP, PUT
from firstsafe.errors import BadFigures
from firstsafe.figures import FigureReader, name_figures, name_of, row_figures
from firstsafe.limits import MOST_DEEDS

# The figure of a word is one more than its place here.
WORDS = ("put", "drop", "move", "swap")


def deed_figures(deed):
    """The figures of a deed."""
    figures = (WORDS.index(deed[0]) + 1,) + name_figures(deed[1])
    if deed[0] == PUT:
        return figures + row_figures(deed[2])
    if deed[0] == DROP:
        return figures
    return figures + name_figures(deed[2])


def group_figures(group):
    """The figures of a group."""
    figures = [len(group)]
    for deed in group:
        figures.extend(deed_figures(deed))
    return tuple(figures)


def next_name(reader):
    """The name that the figures go on with."""
    return name_of(reader.name([]))


def next_deed(reader):
    """The deed that the figures go on with."""
    word = WORDS[reader.figure(1, len(WORDS)) - 1]
    name = next_name(reader)
    if word == PUT:
        return (word, name, reader.row())
    if word == DROP:
        return (word, name)
    return (word, name, next_name(reader))


def next_group(reader):
    """The group that the figures go on with."""
    many = reader.figure(1, MOST_DEEDS)
    return tuple([next_deed(reader) for _ in range(many)])


def groups_of(p, figures):
    """The groups that the figures begin with, and how many figures are left over; or BadFigures."""
    reader = FigureReader(p, figures)
    groups = []
    while not reader.ended():
        start = reader.at
        try:
            groups.append(next_group(reader))
        except BadFigures as error:
            # The reader tells the number of the figures if they only end too early.
            if error.what < len(figures):
                raise
            return (tuple(groups), len(figures) - start)
    return (tuple(groups), 0)
