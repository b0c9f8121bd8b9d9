"""Exact lots of numbers, and how few of them take up all."""

from everyexact.errors import Unfit
from everyexact.masks import ask_few, bits_of, lot_sums, places_of
from everyexact.scales import fits


def greatest_lots(scale, numbers):
    """All exact lots that do not lie within another one, ascending; TooMany from nine numbers on."""
    ask_few(numbers)
    exacts = exact_masks(scale, numbers)
    bits = bits_of(numbers)
    found = []
    for mask, is_exact in enumerate(exacts):
        # Some of exact numbers are exact: so a place more tells of all greater lots.
        if is_exact and not any([exacts[mask + bit] for bit in bits if (mask & bit) == 0]):
            found.append(places_of(mask))
    return tuple(sorted(found))


def exact_masks(scale, numbers):
    """At each mask whether its lot is exact: if its sum fits, and all lots with a place less are exact."""
    bits = bits_of(numbers)
    exacts = []
    for mask, total in enumerate(lot_sums(numbers)):
        exacts.append(fits(scale, total) and all([exacts[mask - bit] for bit in bits if (mask & bit) != 0]))
    return exacts


def fewest_lots(scale, numbers):
    """As few exact lots as can have each place once; TooMany from nine numbers on, Unfit if a number does not fit."""
    ask_few(numbers)
    exacts = exact_masks(scale, numbers)
    if not all([exacts[bit] for bit in bits_of(numbers)]):
        raise Unfit()
    rows = [()]
    for mask in range(1, len(exacts)):
        rows.append(fewest_masks(rows, exacts, mask))
    return tuple([places_of(mask) for mask in rows[-1]])


def fewest_masks(rows, exacts, mask):
    """The masks of as few exact lots as can make up the lot of mask; rows has these of all lesser masks."""
    ways = [rows[mask - one] + (one,) for one in range(1, mask + 1) if (one & mask) == one and exacts[one]]
    return min(ways, key=len)


def few(scale, numbers):
    """How many lots fewest_lots tells."""
    return len(fewest_lots(scale, numbers))
