"""Opening: what the volumes of a device tell after a crash ([17])."""

from firstsafe.charters import made_charter, made_charters
from firstsafe.deeds import applied
from firstsafe.errors import BadFigures, Damaged, NoCharter, NoName, NoVolume, Old, There
from firstsafe.figures import state_of
from firstsafe.groups import groups_of
from firstsafe.limits import MOST_BATCHES
from firstsafe.logbatches import figures_in, is_closing, is_image, is_log
from firstsafe.moves import Move, next_move
from firstsafe.readers import answer_for, possible_heads


class Volume:
    """What a volume on the device tells: its batches from batch 0 on, up to the first one that is not told."""

    def __init__(self, device, number, charter):
        ground, book = charter
        self.volume_number = number
        self.ground = ground
        heads = possible_heads(ground, book, None, device.reading(number, ground))
        self.batches = []
        # The answer for the first batch that is not told.
        self.untold = None
        while self.untold is None and len(self.batches) < MOST_BATCHES:
            answer = answer_for(ground, heads, len(self.batches))
            if answer[0] == "told":
                self.batches.append(answer[1])
            else:
                self.untold = answer

    def closing_place(self):
        """The number of the closing batch of a complete volume, None if the volume is not complete."""
        k = self.ground[1]
        for place, batch in enumerate(self.batches):
            if is_closing(k, batch):
                return place if batch[1] == place else None
            if not is_image(k, batch):
                return None
        return None

    def image_figures(self):
        """The figures of the image of a complete volume."""
        return joined_figures(self.batches[:self.closing_place()])

    def log_figures(self):
        """The figures of the log of a complete volume, or Damaged."""
        batches = self.batches[self.closing_place() + 1:]
        if not all([is_log(self.ground[1], batch) for batch in batches]):
            raise Damaged(self.volume_number)
        return joined_figures(batches)

    def found(self):
        """The state with all found groups done and how many these are, of a complete volume; or Damaged."""
        p = self.ground[0]
        try:
            state = state_of(p, self.image_figures())
            groups, _ = groups_of(p, self.log_figures())
            for group in groups:
                state = applied(state, group)
        except (BadFigures, NoName, There):
            raise Damaged(self.volume_number)
        return (state, len(groups))


def joined_figures(batches):
    """The figures that the batches use, one batch after the other."""
    figures = []
    for batch in batches:
        figures.extend(figures_in(batch))
    return tuple(figures)


def complete_volume(device, charters):
    """The greatest complete Volume of the device, None if there is none; those below it are not read."""
    known = dict(charters)
    for number in reversed(device.volumes()):
        if number not in known:
            raise NoCharter(number)
        volume = Volume(device, number, known[number])
        if volume.closing_place() is not None:
            return volume
    return None


def standing_volume(device, charters):
    """The standing Volume, or what is wrong with the charters, or NoVolume."""
    volume = complete_volume(device, made_charters(charters))
    if volume is None:
        raise NoVolume(0)
    return volume


def standing(device, charters):
    """The number of the standing volume."""
    return standing_volume(device, charters).volume_number


def look(device, charters):
    """The standing volume, its state with all found groups done, and how many groups were found."""
    volume = standing_volume(device, charters)
    state, many = volume.found()
    return (volume.volume_number, state, many)


def doubt(device, charters):
    """The first batch behind the closing batch of the standing volume that is not told, with the answer for it."""
    volume = standing_volume(device, charters)
    if volume.untold is None:
        return None
    return (len(volume.batches), volume.untold)


def opened(device, charters, charter):
    """A Move of the state that `look` finds to a new volume with this charter."""
    made_charters(charters)
    made_charter(charter)
    volume = standing_volume(device, charters)
    state, _ = volume.found()
    return next_move(device, volume.ground[0], charter, state)


def lay(device, charters, charter):
    """A Move of the empty state to a new volume with this charter; Old if a volume is complete."""
    made_charters(charters)
    made_charter(charter)
    if complete_volume(device, charters) is not None:
        raise Old(0)
    return Move(device, device.next_volume(), charter, ())
