"""The desk: a store on a device, asked and told by rows of text ([21])."""

from firstsafe.bookwords import read_book
from firstsafe.charters import made_charter
from firstsafe.errors import BadText, Left, Refused
from firstsafe.figures import is_name
from firstsafe.groups import WORDS
from firstsafe.opening import lay, look, opened
from firstsafe.shelves import Shelves
from firstsafe.storetexts import read_group, state_text
from firstsafe.textnumbers import number_of
from firstsafe.worldtexts import read_ground, told_cell

DONE = "ok"
NOTHING = "-"
BETWEEN_PARTS = " / "


def what_text(what):
    """The text of what an error is about."""
    if isinstance(what, tuple):
        return " ".join([what_text(item) for item in what])
    return str(what)


def words_or_nothing(words):
    """The words separated by blanks, `-` if there are none."""
    return " ".join(words) if words else NOTHING


def state_word(state):
    """The text of a state, `-` for the empty one."""
    return state_text(state) if state else NOTHING


def made_number(word):
    """The number that the word tells, or BadText."""
    number = number_of(word)
    if number is None:
        raise BadText(0)
    return number


def charter_parts(text):
    """The texts of the ground, of the names and of the book in a text of a charter, or BadText."""
    ground, _, rest = text.partition(BETWEEN_PARTS)
    names, second, book = rest.partition(BETWEEN_PARTS)
    # Without a first place of it, there is none in the rest, either.
    if not second:
        raise BadText(0)
    return (ground, names, book)


def read_charter(parts):
    """The charter of these texts of its ground, of its names and of its book."""
    ground = read_ground(parts[0])
    book = read_book(tuple(parts[1].split(" ")), parts[2])
    return made_charter((ground, book))


def made_cell(word):
    """The batch number and the number of a word of CELLS, or BadText."""
    made = told_cell(word)
    if len(made) != 2 or None in made:
        raise BadText(0)
    return made


def made_cells(text):
    """The cells of CELLS, or BadText."""
    if text == NOTHING:
        return ()
    return tuple([made_cell(word) for word in text.split(" ")])


class StoreDesk:
    """Keeps a device, the charters of its volumes and at most one Move or Store."""

    def __init__(self, points):
        self.device = Shelves(points)
        self.kept_charters = {}
        self.kept_move = None
        self.kept_store = None

    def row(self, text):
        """Carries out one row; its answer."""
        try:
            return self.answer_to(text)
        except Refused as error:
            return "refused: " + error.__class__.__name__ + " " + what_text(error.what)

    def answer_to(self, text):
        """The answer to a row, or what it is refused by."""
        if not isinstance(text, str):
            raise BadText(0)
        word, blank, rest = text.partition(" ")
        if not blank:
            return self.answer_alone(word)
        if word in WORDS:
            return DONE + " " + str(self.do(text))
        return self.answer_with(word, rest)

    def answer_alone(self, word):
        """The answer to a row of one word."""
        if word == "sure":
            return str(self.the_store().sure())
        if word == "state":
            return state_word(self.the_store().state())
        if word == "look":
            return self.seen()
        if word == "strike":
            return self.struck()
        if word == "flush":
            self.the_store().flush()
        elif word == "stop":
            self.keep(None, None)
        elif word == "answer":
            self.keep(None, self.the_move().store())
        else:
            raise BadText(0)
        return DONE

    def answer_with(self, word, rest):
        """The answer to a row of a word, a blank and the rest."""
        if word == "write":
            return self.cell_written(made_number(rest))
        if word == "get":
            return self.row_of(rest)
        if word == "lost":
            point = made_number(rest)
            self.the_writer().lost(point)
        elif word == "lose":
            self.lose(made_number(rest))
        elif word == "fall":
            self.fall(rest)
        elif word in ("lay", "open", "shift"):
            self.begin(word, charter_parts(rest))
        else:
            raise BadText(0)
        return DONE

    def the_move(self):
        """The Move that is kept, or Left."""
        if self.kept_move is None:
            raise Left(0)
        return self.kept_move

    def the_store(self):
        """The Store that is kept, or Left."""
        if self.kept_store is None:
            raise Left(0)
        return self.kept_store

    def the_writer(self):
        """The Move or Store that is kept, or Left."""
        return self.the_store() if self.kept_move is None else self.kept_move

    def keep(self, move, store):
        """Keeps this Move or this Store, None for none, in the place of what was kept."""
        self.kept_move = move
        self.kept_store = store

    def charters(self):
        """The charters of all volumes that were begun, by ascending volumes."""
        return tuple([(volume, self.kept_charters[volume]) for volume in sorted(list(self.kept_charters))])

    def begin(self, word, parts):
        """Makes and keeps the Move of the row `lay`, `open` or `shift`."""
        if word == "shift":
            move = self.the_writer().move(read_charter(parts))
        elif word == "lay":
            move = lay(self.device, self.charters(), read_charter(parts))
        else:
            move = opened(self.device, self.charters(), read_charter(parts))
        self.kept_charters[move.volume()] = move.charter()
        self.keep(move, None)

    def do(self, text):
        """Does the group of the text; its number."""
        store = self.the_store()
        return store.do(read_group(store.charter()[0][0], text))

    def cell_written(self, point):
        """Lets the shelf write a cell; its text."""
        made = self.the_writer().write(point)
        return NOTHING if made is None else " ".join([str(number) for number in made])

    def row_of(self, name):
        """The text of the row of a name."""
        if not is_name(name):
            raise BadText(0)
        return words_or_nothing([str(number) for number in self.the_store().row_of(name)])

    def fall(self, text):
        """Puts cells in the place of a tape; the text is that of the volume, the point and the cells."""
        place, colon, cells = text.partition(": ")
        words = place.split(" ")
        if not colon or len(words) != 2:
            raise BadText(0)
        volume = made_number(words[0])
        point = made_number(words[1])
        self.device.fall(volume, point, made_cells(cells))

    def lose(self, point):
        """Strikes the tapes of a shelf."""
        volumes = self.device.volumes()
        for volume in volumes:
            self.device.strike(volume, point)

    def seen(self):
        """What `look` returns, as a text."""
        volume, state, many = look(self.device, self.charters())
        return " ".join([str(volume), str(many), state_word(state)])

    def struck(self):
        """Strikes the elder tapes; which these are."""
        pairs = self.the_store().strike_elder()
        for volume, point in pairs:
            self.device.strike(volume, point)
        return words_or_nothing([str(volume) + ":" + str(point) for volume, point in pairs])
