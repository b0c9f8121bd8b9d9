"""Trees: in which order and with which brackets numbers are added."""

from everyexact.errors import Unfit
from everyexact.scales import fits
from everyexact.values import is_integer, is_row


def tree_error(many, value):
    """None if value is a tree of so many places, otherwise what is wrong first."""
    found = leaves(value)
    if found is None:
        return "form"
    for place in range(many):
        if found.count(place) != 1:
            return ("place", place)
    if len(found) > many:
        return "far"
    return None


def leaves(value):
    """All integers in value, None if it is made of anything but integers and pairs."""
    found = []
    left = [value]
    while left:
        part = left.pop()
        if is_integer(part):
            found.append(part)
        elif is_row(part, 2):
            left.extend(part)
        else:
            return None
    return found


def tree_sums(numbers, tree):
    """The sums of all parts of tree: those of a pair's first tree, of its second one, that of the pair."""
    if is_integer(tree):
        return (numbers[tree],)
    one, other = tree
    first = tree_sums(numbers, one)
    second = tree_sums(numbers, other)
    return first + second + (first[-1] + second[-1],)


def is_clean(scale, numbers, tree):
    """Whether the sums of all parts of tree fit scale."""
    return all([fits(scale, total) for total in tree_sums(numbers, tree)])


def unclean(scale, numbers):
    """None if all trees of numbers are clean, otherwise one that is not; Unfit if there are no numbers."""
    if len(numbers) == 0:
        raise Unfit()
    lot = unfit_lot(scale, numbers)
    if lot is None:
        return None
    others = [place for place in range(len(numbers)) if place not in lot]
    # What does not fit is put together first, so that it is the sum of a part.
    return row_tree(lot + others)


def unfit_lot(scale, numbers):
    """Places of numbers whose sum does not fit scale; None if there are none, so if numbers are exact ([D7])."""
    for sign in (1, -1):
        ahead = [place for place, number in enumerate(numbers) if number * sign > 0]
        lots = [ahead] + [switched(ahead, place) for place in range(len(numbers))]
        for lot in lots:
            if not fits(scale, sum([numbers[place] for place in lot])):
                return lot
    return None


def switched(lot, place):
    """lot with this place, if it is not in it, or else without it."""
    if place in lot:
        return [other for other in lot if other != place]
    return lot + [place]


def row_tree(places):
    """The tree to which one place after the other comes."""
    tree = places[0]
    for place in places[1:]:
        tree = (tree, place)
    return tree
