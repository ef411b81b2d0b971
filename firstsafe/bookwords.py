"""Reading books from their texts ([5.1] to [5.3])."""

from itertools import combinations

from firstsafe.booknames import FIGURES, LETTERS, is_shelf_name, made_names
from firstsafe.bounds import greater
from firstsafe.errors import BadNumber, BadText, NoName, TooMany, Twice
from firstsafe.limits import MOST_FATE, MOST_ROWS, MOST_SIGNS
from firstsafe.textnumbers import reads_as_number

NOTHING = (0, 0)


def sign_fits(sign):
    """True for a sign that a text may have: its code is from 32 to 126, but not 37."""
    return " " <= sign <= "~" and ord(sign) != 37


def made_text(thing):
    """The text, or BadText if it is too long or has a sign that no text has."""
    if not isinstance(thing, str):
        raise BadText(-1)
    for place, sign in enumerate(thing):
        if place == MOST_SIGNS or not sign_fits(sign):
            raise BadText(place)
    return thing


def end_of_word(text, place):
    """The place behind the word, or the one other sign, at this place."""
    end = place
    while end < len(text) and (text[end] in LETTERS or text[end] in FIGURES):
        end += 1
    return max(end, place + 1)


def words_of(text):
    """A pair (place, word) for each word and each other sign but blanks, and (length, "") for the end."""
    found = []
    place = 0
    while place < len(text):
        end = end_of_word(text, place)
        if text[place] != " ":
            found.append((place, text[place:end]))
        place = end
    found.append((len(text), ""))
    return found


def choices_of(places, many):
    """Each set of so many of the shelves, as ascending tuples in ascending order."""
    return list(combinations(sorted(places), many))


def greater_fate(one, two):
    """The fate with the greater one of both u and the greater one of both v."""
    return (greater(one[0], two[0]), greater(one[1], two[1]))


def raised(row, choice, fate):
    """The row in which the shelves of the choice have at least this fate."""
    return tuple([greater_fate(old, fate) if shelf in choice else old for shelf, old in enumerate(row)])


def combined(rows, choices, fate):
    """The unlike rows that the choices of one more part make of the rows of the parts before it.

    Equal rows may be dropped before more parts follow: what is made of the later one is made of the first one before.
    """
    found = {}
    for row in rows:
        for choice in choices:
            found[raised(row, choice, fate)] = True
    return list(found)


class BookReader:
    """Reads the words of a text from the left to the right."""

    def __init__(self, names, text):
        self.shelf_names = names
        self.words = words_of(text)
        self.at = 0

    def here(self):
        """The place of the word that is to be read."""
        return self.words[self.at][0]

    def word(self):
        """The word that is to be read."""
        return self.words[self.at][1]

    def taken(self, word):
        """True if the word that is to be read is this one; then it has been read."""
        if self.word() != word:
            return False
        self.at += 1
        return True

    def book(self):
        """BOOK: its unlike rows."""
        rows = {}
        while True:
            start = self.here()
            found = self.clause()
            for row in found:
                rows[row] = True
            if len(rows) > MOST_ROWS:
                raise TooMany(start)
            if self.word() == "":
                return tuple(rows)
            if not self.taken(";"):
                raise BadText(self.here())

    def clause(self):
        """CLAUSE: its unlike rows."""
        rows = [(NOTHING,) * len(self.shelf_names)]
        if self.taken("nothing"):
            return rows
        rows = self.part(rows)
        while self.taken("and"):
            rows = self.part(rows)
        return rows

    def part(self, rows):
        """PART: the unlike rows of the clause up to it, from those of the parts before it."""
        start = self.here()
        fate = self.fate()
        rows = combined(rows, self.who(), fate)
        if len(rows) > MOST_ROWS:
            raise TooMany(start)
        return rows

    def fate(self):
        """The beginning of a PART: the fate that it gives to the shelves of its choices."""
        if self.taken("lose"):
            return (None, 0)
        if self.taken("turn"):
            return (0, None)
        if self.taken("cut"):
            return (self.number(0, MOST_FATE), 0)
        if self.taken("tear"):
            return (0, self.number(0, MOST_FATE))
        raise BadText(self.here())

    def number(self, least, most):
        """NUMBER, from `least` to `most`."""
        place, word = self.words[self.at]
        if not reads_as_number(word):
            raise BadText(place)
        # All bounds have two figures at the most; a number of more may be too long to be computed.
        if len(word) > 2 or not least <= int(word) <= most:
            raise BadNumber(place)
        self.at += 1
        return int(word)

    def who(self):
        """WHO: its choices of shelves."""
        if not self.taken("any"):
            return [self.shelves()]
        place = self.here()
        many = self.number(1, len(self.shelf_names))
        if not self.taken("of"):
            return choices_of(list(range(len(self.shelf_names))), many)
        among = self.shelves()
        if many > len(among):
            raise BadNumber(place)
        return choices_of(among, many)

    def shelves(self):
        """NAME { NAME }: the shelves of these names."""
        found = [self.shelf([])]
        while is_shelf_name(self.word()):
            found.append(self.shelf(found))
        return found

    def shelf(self, earlier):
        """NAME: its shelf, which is none of the earlier ones."""
        place, word = self.words[self.at]
        if not is_shelf_name(word):
            raise BadText(place)
        if word not in self.shelf_names:
            raise NoName(place)
        shelf = self.shelf_names.index(word)
        if shelf in earlier:
            raise Twice(place)
        self.at += 1
        return shelf


def read_book(names, text):
    """The book of the text, in which the shelves have these names."""
    made_names(names)
    made_text(text)
    return BookReader(names, text).book()
