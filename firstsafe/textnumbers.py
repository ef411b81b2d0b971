"""Numbers in texts ([5.1], [12], [20])."""

from firstsafe.booknames import FIGURES
from firstsafe.limits import MOST_FIGURES


def reads_as_number(word):
    """True for a word of figures alone without a leading zero."""
    if not word or not all([sign in FIGURES for sign in word]):
        return False
    return word == "0" or word[0] != "0"


def number_of(word):
    """The number that the word tells, None if it is no number of at most 5 figures."""
    if not reads_as_number(word) or len(word) > MOST_FIGURES:
        return None
    return int(word)
