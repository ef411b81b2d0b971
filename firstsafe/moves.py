"""Moves: writing a state into a new volume ([15])."""

from firstsafe.charters import made_charter
from firstsafe.errors import BadCharter, BadState, Left, NotWhole, Old
from firstsafe.figures import is_state
from firstsafe.logbatches import IMAGE, closing, cut, image_figures
from firstsafe.pens import Pen
from firstsafe.shelves import made_volume
from firstsafe.store import Store


def made_images(device, volume, charter, state):
    """The image batches of the state, or what is wrong with the arguments of a Move, in their order."""
    made_volume(volume)
    p, k, points = made_charter(charter)[0]
    device.check_points(points)
    if not is_state(p, state):
        raise BadState(0)
    figures = image_figures(k, state)
    if volume < device.next_volume():
        raise Old(volume)
    return cut(k, IMAGE, figures)


def next_move(device, p, charter, state):
    """A Move of the state to the next volume of the device, p being that of the volume before."""
    if made_charter(charter)[0][0] != p:
        raise BadCharter(3)
    return Move(device, device.next_volume(), charter, state)


class Move:
    """Writes the image batches of a state and the closing batch behind them."""

    def __init__(self, device, volume, charter, state):
        images = made_images(device, volume, charter, state)
        self.moved_state = state
        self.many_images = len(images)
        self.stored = False
        self.pen = Pen(device, volume, charter)
        for batch in images:
            self.pen.begin(batch)
        self.begin_closing()

    def check_left(self):
        """Left if the Store has been made or another Move on the device."""
        if self.stored or self.pen.left():
            raise Left(0)

    def begin_closing(self):
        """Begins the closing batch as soon as all image batches are safe."""
        if len(self.pen.batches) == self.many_images and self.pen.safe_many() == self.many_images:
            self.pen.begin(closing(self.pen.volume_charter[0][1], self.many_images))

    def volume(self):
        """The number of the volume."""
        self.check_left()
        return self.pen.volume_number

    def charter(self):
        """The charter of the volume."""
        self.check_left()
        return self.pen.volume_charter

    def write(self, point):
        """Lets the shelf with this point write a cell; the cell, or None if it writes nothing."""
        self.check_left()
        made = self.pen.write(point)
        self.begin_closing()
        return made

    def lost(self, point):
        """Leaves the shelf with this point alone in this volume from now on."""
        self.check_left()
        self.pen.lost(point)

    def safe_many(self):
        """How many batches are safe without a gap, from batch 0 on."""
        self.check_left()
        return self.pen.safe_many()

    def whole(self):
        """True if the closing batch is safe."""
        return self.safe_many() > self.many_images

    def move(self, charter):
        """A Move of the same state to a new volume with this charter."""
        self.check_left()
        return self.moved(charter, self.moved_state)

    def moved(self, charter, state):
        """A Move of the state to a new volume; the Store that is made of this Move asks for it, too."""
        return next_move(self.pen.device, self.pen.volume_charter[0][0], charter, state)

    def store(self):
        """The Store of the volume, or NotWhole."""
        if not self.whole():
            raise NotWhole(self.pen.safe_many())
        self.stored = True
        return Store(self, self.pen, self.moved_state)
