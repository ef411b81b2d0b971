"""The limits of the package; more than these is refused."""

MOST_PRIME = 65521
MOST_NUMBERS = 12
MOST_SHELVES = 8
MOST_BATCHES = 64
MOST_CELLS = 1024
MOST_DEGREE = 98
