"""Texts of groups and of states ([20])."""

from firstsafe.booknames import FIGURES
from firstsafe.deeds import DROP, PUT, made_group
from firstsafe.errors import BadState, BadText
from firstsafe.figures import SIGNS, is_state
from firstsafe.groups import WORDS
from firstsafe.limits import MOST_FIGURES, MOST_STORE_NAME

BETWEEN_PARTS = " & "


class TextReader:
    """Reads a text from the left to the right; BadText tells the place at which it cannot go on as it does."""

    def __init__(self, text):
        if not isinstance(text, str):
            raise BadText(-1)
        self.text = text
        self.at = 0

    def ended(self):
        """True if the whole text has been read."""
        return self.at == len(self.text)

    def comes(self, sign):
        """True if this sign comes next."""
        return self.text[self.at:self.at + 1] == sign

    def take(self, signs):
        """Reads just these signs."""
        for sign in signs:
            if not self.comes(sign):
                raise BadText(self.at)
            self.at += 1

    def run(self, signs, most):
        """Reads as many of the signs as there are, at least one and at most so many."""
        start = self.at
        while not self.ended() and self.at < start + most and self.text[self.at] in signs:
            self.at += 1
        if self.at == start:
            raise BadText(start)
        return self.text[start:self.at]

    def name(self):
        """A name."""
        return self.run(SIGNS, MOST_STORE_NAME)

    def number(self):
        """A number; behind a leading 0 it is at its end."""
        return int(self.run(FIGURES, 1 if self.comes("0") else MOST_FIGURES))

    def row(self):
        """The numbers of a row, each behind a blank; a blank and a `&` begin the next part of the text."""
        numbers = []
        while self.comes(" ") and self.text[self.at + 1:self.at + 2] != "&":
            self.take(" ")
            numbers.append(self.number())
        return tuple(numbers)


def next_pair(reader):
    """The name and the row that the text goes on with."""
    name = reader.name()
    reader.take(":")
    return (name, reader.row())


def next_deed(reader):
    """The deed that the text goes on with."""
    for word in WORDS:
        if reader.comes(word[0]):
            reader.take(word + " ")
            return deed_behind(reader, word)
    raise BadText(reader.at)


def deed_behind(reader, word):
    """The deed whose word has been read."""
    if word == PUT:
        return (word,) + next_pair(reader)
    name = reader.name()
    if word == DROP:
        return (word, name)
    reader.take(" ")
    return (word, name, reader.name())


def read_parts(reader, next_part):
    """All parts of the text; the function reads one of them."""
    parts = [next_part(reader)]
    while not reader.ended():
        reader.take(BETWEEN_PARTS)
        parts.append(next_part(reader))
    return tuple(parts)


def pair_text(name, row):
    """The text of a name and its row."""
    return name + ":" + "".join([" " + str(number) for number in row])


def deed_text(deed):
    """The text of a deed."""
    if deed[0] == PUT:
        return PUT + " " + pair_text(deed[1], deed[2])
    return " ".join(deed)


def print_group(group):
    """The text of the group."""
    return BETWEEN_PARTS.join([deed_text(deed) for deed in group])


def read_group(p, text):
    """The group of the text, or BadText, or BadGroup."""
    return made_group(p, read_parts(TextReader(text), next_deed))


def state_text(state):
    """The text of the state."""
    return BETWEEN_PARTS.join([pair_text(name, row) for name, row in state])


def read_state(p, text):
    """The state of the text, or BadText, or BadState."""
    reader = TextReader(text)
    state = () if reader.ended() else read_parts(reader, next_pair)
    if not is_state(p, state):
        raise BadState(0)
    return state
