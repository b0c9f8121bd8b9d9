"""Whether the sums of all choices of a bag fit a scale: [C5] tells why a few sums tell of all.

Nothing here asks how many kinds there are, so rows of more kinds than a bag has may be handed in, too.
"""

from everyexact.bags import choice_error, ends, looks, sum_of
from everyexact.scales import fits


def exact(scale, bag):
    """Whether the sums of all choices of bag fit scale."""
    return all([fits(scale, total) for total in looks(bag)])


def loose(scale, bag):
    """None if bag is exact by scale, otherwise a choice of it whose sum does not fit."""
    for end, total in zip((0, -1), ends(bag)):
        # The end itself is among these: there the item takes the value that it has already.
        for kind, (item, _) in enumerate(bag):
            for place, number in enumerate(item):
                if not fits(scale, total - item[end] + number):
                    return one_off(bag, end, kind, place)
    return None


def one_off(bag, end, kind, place):
    """The choice in which all items take the value at end, but one of this kind takes that at place."""
    rows = []
    for item, many in bag:
        row = [0] * len(item)
        row[end] = many
        rows.append(row)
    rows[kind][end] -= 1
    rows[kind][place] += 1
    return tuple([tuple(row) for row in rows])


def is_loose(scale, bag, value):
    """Whether value is a choice of bag whose sum does not fit scale."""
    return choice_error(bag, value) is None and not fits(scale, sum_of(bag, value))
