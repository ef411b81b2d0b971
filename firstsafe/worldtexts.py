"""Texts of grounds, weavings and readings ([12])."""

from firstsafe.errors import BadText
from firstsafe.grounds import is_ground, made_ground
from firstsafe.tapes import is_reading, is_weaving, made_reading, made_weaving
from firstsafe.textnumbers import number_of

FAR = "far"
NO_CELLS = "-"
BETWEEN_TAPES = " | "


def ground_text(ground):
    """The text of the ground."""
    p, k, points = made_ground(ground)
    words = [str(p), str(k)]
    for point in points:
        words.append(FAR if point == p else str(point))
    return " ".join(words)


def told_point(p, word):
    """The point that the word tells, None if it tells none; the far point is never written as a number."""
    if word == FAR:
        return p
    point = number_of(word)
    return None if point == p else point


def told_ground(text):
    """The ground that the text tells, or something that is no ground."""
    words = text.split(" ")
    if len(words) < 3:
        return None
    p = number_of(words[0])
    return (p, number_of(words[1]), tuple([told_point(p, word) for word in words[2:]]))


def read_ground(text):
    """The ground whose text this is, or BadText."""
    thing = told_ground(text) if isinstance(text, str) else None
    if not is_ground(thing):
        raise BadText(0)
    return thing


def tapes_text(tapes, word_of):
    """The text of tapes; the function writes one entry of a tape."""
    texts = [" ".join([word_of(entry) for entry in tape]) if tape else NO_CELLS for tape in tapes]
    return BETWEEN_TAPES.join(texts)


def told_tapes(text, entry_of):
    """The tapes that the text tells; the function reads one entry, and gives what is none if the word tells none."""
    tapes = []
    for part in text.split(BETWEEN_TAPES):
        tapes.append(() if part == NO_CELLS else tuple([entry_of(word) for word in part.split(" ")]))
    return tuple(tapes)


def number_word(entry):
    """The word of a batch number."""
    return str(entry)


def cell_word(entry):
    """The word of a cell."""
    b, number = entry
    return str(b) + ":" + str(number)


def told_cell(word):
    """The cell that the word tells, or something that is no cell."""
    return tuple([number_of(part) for part in word.split(":")])


def weaving_text(ground, weaving):
    """The text of the weaving."""
    return tapes_text(made_weaving(ground, weaving), number_word)


def read_weaving(ground, text):
    """The weaving of this ground whose text this is, or BadText."""
    made_ground(ground)
    thing = told_tapes(text, number_of) if isinstance(text, str) else None
    if not is_weaving(ground, thing):
        raise BadText(0)
    return thing


def reading_text(ground, reading):
    """The text of the reading."""
    return tapes_text(made_reading(ground, reading), cell_word)


def read_reading(ground, text):
    """The reading of this ground whose text this is, or BadText."""
    made_ground(ground)
    thing = told_tapes(text, told_cell) if isinstance(text, str) else None
    if not is_reading(ground, thing):
        raise BadText(0)
    return thing
