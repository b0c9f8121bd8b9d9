"""Lots of places as masks: integers whose bit at a place tells whether the lot has it."""

from everyexact.bounds import MAX_PLACES
from everyexact.errors import TooMany


def ask_few(numbers):
    """TooMany if not all lots of places can be gone through."""
    if len(numbers) > MAX_PLACES:
        raise TooMany(MAX_PLACES)


def bits_of(numbers):
    """The masks of the lots of one place, in order."""
    return [1 << place for place in range(len(numbers))]


def places_of(mask):
    """The lot of which this is the mask."""
    return tuple([place for place in range(mask.bit_length()) if (mask >> place) & 1 == 1])


def lot_sums(numbers):
    """The sums of all lots, each at its mask."""
    sums = [0]
    for number in numbers:
        sums = sums + [total + number for total in sums]
    return sums
