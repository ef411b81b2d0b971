"""Ways to share out a number among shelves."""


def shares(most, total):
    """All tuples of numbers with this sum, each at most the number at its place in `most`, in ascending order."""
    found = [((), total)]
    for bound in most:
        found = [(share + (part,), rest - part) for share, rest in found for part in range(min(bound, rest) + 1)]
    return [share for share, rest in found if rest == 0]
