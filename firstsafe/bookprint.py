"""Printing books as texts ([5.4])."""

from firstsafe.booknames import made_names
from firstsafe.books import made_book


def bound_parts(all_word, some_word, bound, name):
    """The text of the part that gives the bound to the shelf, in a list; [] for 0."""
    if bound is None:
        return [all_word + " " + name]
    if bound > 0:
        return [some_word + " " + str(bound) + " " + name]
    return []


def row_text(names, row):
    """The clause of one row."""
    parts = []
    for name, (u, v) in zip(names, row):
        parts.extend(bound_parts("lose", "cut", u, name))
        parts.extend(bound_parts("turn", "tear", v, name))
    if not parts:
        return "nothing"
    return " and ".join(parts)


def print_book(names, book):
    """The text of the book, one clause for each row."""
    made_names(names)
    made_book(len(names), book)
    return "; ".join([row_text(names, row) for row in book])
