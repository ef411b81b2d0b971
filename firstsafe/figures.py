"""Names, rows and states of the store, and the figures that they are written as ([19])."""

from firstsafe.errors import BadFigures
from firstsafe.kinds import is_pair, number_between, numbers_fit
from firstsafe.limits import LEAST_STORE_PRIME, MOST_STORE_NAME, MOST_STORE_ROW
from firstsafe.primes import is_prime

# The number of a sign is its place here.
SIGNS = "abcdefghijklmnopqrstuvwxyz0123456789"
LAST_SIGN = 35


def prime_fits(p):
    """True for a prime that a store may have."""
    return is_prime(p) and p >= LEAST_STORE_PRIME


def is_name(thing):
    """True for a name of the store; a judge."""
    if not isinstance(thing, str) or not 1 <= len(thing) <= MOST_STORE_NAME:
        return False
    return all([sign in SIGNS for sign in thing])


def signs_of(name):
    """The numbers of the name's signs, by which names are compared."""
    return [SIGNS.index(sign) for sign in name]


def numbers_are_row(p, thing):
    """True for a row of the store."""
    return numbers_fit(thing, 0, MOST_STORE_ROW, p - 1)


def is_state(p, thing):
    """True for a state; a judge."""
    if not prime_fits(p) or not isinstance(thing, tuple):
        return False
    before = []
    for item in thing:
        if not is_pair(item) or not is_name(item[0]) or not numbers_are_row(p, item[1]):
            return False
        signs = signs_of(item[0])
        if signs <= before:
            return False
        before = signs
    return True


def name_figures(name):
    """The figures of a name."""
    return (len(name),) + tuple(signs_of(name))


def row_figures(row):
    """The figures of a row."""
    return (len(row),) + row


def image(state):
    """The figures of the state."""
    figures = []
    for name, row in state:
        figures.extend(name_figures(name))
        figures.extend(row_figures(row))
    return tuple(figures)


class FigureReader:
    """Reads figures from the left to the right."""

    def __init__(self, p, figures):
        if not isinstance(figures, tuple):
            raise BadFigures(-1)
        self.p = p
        self.figures = figures
        self.at = 0

    def ended(self):
        """True if all figures have been read."""
        return self.at == len(self.figures)

    def figure(self, least, most):
        """The next figure, from `least` to `most`; at the end, BadFigures tells how many figures there are."""
        if self.ended() or not number_between(self.figures[self.at], least, most):
            raise BadFigures(self.at)
        self.at += 1
        return self.figures[self.at - 1]

    def name(self, before):
        """The numbers of the signs of a name, which is greater than the name with the signs `before`."""
        length = self.figure(1, MOST_STORE_NAME)
        signs = []
        while True:
            # The greatest name that may still follow decides whether the figure that was read last can stand.
            if signs + [LAST_SIGN] * (length - len(signs)) <= before:
                raise BadFigures(self.at - 1)
            if len(signs) == length:
                return signs
            signs.append(self.figure(0, LAST_SIGN))

    def row(self):
        """A row."""
        many = self.figure(0, MOST_STORE_ROW)
        return tuple([self.figure(0, self.p - 1) for _ in range(many)])


def name_of(signs):
    """The name whose signs have these numbers."""
    return "".join([SIGNS[sign] for sign in signs])


def state_of(p, figures):
    """The state whose image the figures are, or BadFigures."""
    reader = FigureReader(p, figures)
    state = []
    before = []
    while not reader.ended():
        before = reader.name(before)
        state.append((name_of(before), reader.row()))
    return tuple(state)
