"""Orders and trees that can be kept, though not all can."""

from everyexact.addends import exact_numbers
from everyexact.errors import Unfit
from everyexact.masks import ask_few, bits_of, lot_sums, places_of
from everyexact.scales import fits


def clean_order(scale, numbers):
    """An order of numbers of which all sums fit scale, None if there is none; TooMany from nine numbers on."""
    ask_few(numbers)
    ways = beginnings(scale, numbers)
    mask = len(ways) - 1
    if ways[mask] == 0:
        return None
    order = []
    while mask != 0:
        # Backwards from all places: some of them can come last to this lot, behind a clean beginning.
        lasts = [place for place in places_of(mask) if ways[mask - (1 << place)] > 0]
        order.append(lasts[0])
        mask = mask - (1 << lasts[0])
    return tuple(order[::-1])


def order_many(scale, numbers):
    """How many orders of numbers are clean; TooMany from nine numbers on."""
    ask_few(numbers)
    return beginnings(scale, numbers)[-1]


def beginnings(scale, numbers):
    """At the mask of each lot of places, in how many orders it begins a clean order, as far as it goes ([E4])."""
    fitting = [fits(scale, total) for total in lot_sums(numbers)]
    bits = bits_of(numbers)
    if not all([fitting[bit] for bit in bits]):
        return [0] * len(fitting)
    ways = [1]
    for mask in range(1, len(fitting)):
        many = sum([ways[mask - bit] for bit in bits if (mask & bit) != 0])
        ways.append(many if fitting[mask] else 0)
    return ways


def clean_tree(scale, numbers):
    """A tree of numbers that is clean, None if there is none; TooMany from nine numbers on, Unfit without any."""
    ask_few(numbers)
    if len(numbers) == 0:
        raise Unfit()
    trees = [None]
    for mask, total in list(enumerate(lot_sums(numbers)))[1:]:
        trees.append(lot_tree(trees, mask) if fits(scale, total) else None)
    return trees[-1]


def lot_tree(trees, mask):
    """A tree of the lot of mask, of two of these trees if it is not one place; None if there is none."""
    places = places_of(mask)
    if len(places) == 1:
        return places[0]
    for one in range(1, mask):
        if (one & mask) == one and trees[one] is not None and trees[mask - one] is not None:
            return (trees[one], trees[mask - one])
    return None


def longest_start(scale, numbers):
    """How many numbers from the first one on are exact by scale, at the most."""
    many = 0
    # Some of exact numbers are exact: so behind the first beginning that is not there is none.
    while many < len(numbers) and exact_numbers(scale, numbers[:many + 1]):
        many += 1
    return many
