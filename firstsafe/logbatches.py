"""What a batch of a volume is: an image batch, the closing batch or a log batch ([14])."""

from firstsafe.errors import TooGreat
from firstsafe.figures import image
from firstsafe.kinds import number_between, numbers_fit
from firstsafe.limits import LEAST_STORE_NUMBERS, MOST_IMAGES, MOST_NUMBERS, MOST_PRIME

IMAGE = 0
CLOSING = 1
LOG = 2


def form_fits(k, batch):
    """True for a tuple of k numbers, k being one that a charter may have."""
    return number_between(k, LEAST_STORE_NUMBERS, MOST_NUMBERS) and numbers_fit(batch, k, k, MOST_PRIME - 1)


def holds_figures(k, kind, batch):
    """True for a batch of this kind, which uses at least one figure."""
    if not form_fits(k, batch) or batch[0] != kind:
        return False
    used = batch[1]
    return 1 <= used <= k - 2 and not any(batch[2 + used:])


def is_image(k, batch):
    """True for an image batch; a judge."""
    return holds_figures(k, IMAGE, batch)


def is_log(k, batch):
    """True for a log batch; a judge."""
    return holds_figures(k, LOG, batch)


def is_closing(k, batch):
    """True for a closing batch; a judge."""
    return form_fits(k, batch) and batch[0] == CLOSING and batch[1] <= MOST_IMAGES and not any(batch[2:])


def cut(k, kind, figures):
    """The batches of the kind that hold the figures, all but the last one full."""
    room = k - 2
    found = []
    for start in range(0, len(figures), room):
        part = figures[start:start + room]
        found.append((kind, len(part)) + part + (0,) * (room - len(part)))
    return tuple(found)


def image_figures(k, state):
    """The figures of a state that is written into a volume, or TooGreat."""
    figures = image(state)
    if len(figures) > MOST_IMAGES * (k - 2):
        raise TooGreat(len(figures))
    return figures


def closing(k, many):
    """The closing batch behind so many image batches."""
    return (CLOSING, many) + (0,) * (k - 2)


def figures_in(batch):
    """The figures that an image batch or a log batch uses."""
    return batch[2:2 + batch[1]]
