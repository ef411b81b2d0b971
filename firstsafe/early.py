"""What is known early of a batch: the numbers that fewer than k cells determine ([9])."""

from firstsafe.forms import product
from firstsafe.grounds import made_lengths


def ways_left(ground, lengths):
    """How many cells are lacking until k are known."""
    known = sum(made_lengths(ground, lengths))
    return max(0, ground[1] - known)


def early(ground, lengths):
    """The places of the numbers that all batches with the same first cells of these lengths share."""
    left = ways_left(ground, lengths)
    if left == 0:
        return tuple(range(ground[1]))
    # The other batches differ by the products of P and the forms of `left` numbers.
    numbers = product(ground, lengths)
    return tuple([j for j in range(ground[1]) if not any(numbers[max(0, j - left + 1):j + 1])])
