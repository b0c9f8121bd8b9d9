"""What may come besides the items of a bag, so that it stays exact.

[F4] tells how it can be reckoned. In short, for a number x above 0: it may come exactly if the greatest sum and x, and
the least sum and x, fit, and the former is not too great for what items lack of their greatest values. Below 0 all is
turned about.
"""

from everyexact.addends import item_of
from everyexact.bags import ends
from everyexact.bounds import MAX_MANY
from everyexact.errors import Unfit
from everyexact.exactness import exact
from everyexact.scales import first_multiple, fits, lesser, stretches


def may_come(scale, bag, number):
    """Whether an item of 0 and number may come; Unfit if bag is not exact by scale."""
    ask_exact(scale, bag)
    return exact(scale, bag + ((item_of(number), 1),))


def copies(scale, bag, number):
    """How many items of 0 and number may come, all at a time; Unfit if bag is not exact by scale."""
    ask_exact(scale, bag)
    if number < 0:
        return copies_above(scale, turned(bag), -number)
    return copies_above(scale, bag, number)


def next_to_come(scale, bag, low, high):
    """The least number from low to high that may come, None if none may; Unfit if bag is not exact by scale."""
    rows = coming(scale, bag, low, high)
    return rows[0][0] if rows else None


def room(scale, bag, low, high):
    """How many of the numbers from low to high may come; Unfit if bag is not exact by scale."""
    return sum([(last - first) // step + 1 for first, last, step in coming(scale, bag, low, high)])


def ask_exact(scale, bag):
    if not exact(scale, bag):
        raise Unfit()


def turned(bag):
    """bag with all values turned in sign."""
    return tuple([(tuple([-number for number in item[::-1]]), many) for item, many in bag])


def lacks(bag):
    """By how much the values of items are below the greatest ones."""
    return sorted(set([item[-1] - number for item, _ in bag for number in item]))


def limit(scale, lacking):
    """What a greatest sum that fits may be at the most if items lack so much of it; None for no end."""
    found = []
    for bound, step in scale:
        if step != 0:
            # A sum above bound has to be a multiple of step: with such a lack it is none.
            found.extend([bound + lack for lack in lacking if lack % step != 0])
    return min(found, default=None)


def copies_above(scale, bag, number):
    """As copies tells it, for an exact bag and a number above 0."""
    least, greatest = ends(bag)
    if not fits(scale, least + number):
        return 0
    most = limit(scale, lacks(bag) + [number])
    low, high = 0, MAX_MANY
    while low < high:
        middle = (low + high + 1) // 2
        top = greatest + middle * number
        if fits(scale, top) and (most is None or top <= most):
            low = middle
        else:
            high = middle - 1
    return low


def coming(scale, bag, low, high):
    """Rows (first, last, step), ascending: of the numbers from low to high first, first + step, .., last may come."""
    ask_exact(scale, bag)
    rows = []
    for first, last, step in coming_above(scale, turned(bag), max(1, -high), -low)[::-1]:
        rows.append((-last, -first, step))
    if low <= 0 <= high:
        rows.append((0, 0, 1))
    return rows + coming_above(scale, bag, max(1, low), high)


def coming_above(scale, bag, low, high):
    """Such rows for an exact bag and low above 0; there are none if low is above high."""
    least, greatest = ends(bag)
    kept = stretches(scale)
    # Above the last stretch nothing fits, if it ends anywhere.
    top = lesser(lesser(greatest + high, limit(scale, lacks(bag))), kept[-1][1])
    starts = piece_starts(kept, bag, low, top - greatest)
    rows = []
    for start, behind in zip(starts, starts[1:] + [top - greatest + 1]):
        above = step_at(kept, greatest + start)
        below = step_at(kept, -least - start)
        # The lesser one divides the greater one, as the steps of stretches do.
        step = max(above, below)
        base = greatest if step == above else least
        first = first_multiple(step, base + start) - base
        last = (base + behind - 1) // step * step - base
        if (greatest - least) % min(above, below) == 0 and first <= last:
            rows.append((first, last, step))
    return rows


def piece_starts(kept, bag, low, high):
    """low, and all numbers from there to high with which the greatest or the least sum comes to another stretch."""
    least, greatest = ends(bag)
    starts = [low]
    for bottom, top, _ in kept:
        starts.append(bottom - greatest)
        if top is not None:
            # The least sum comes from below 0, so it leaves a stretch of great ones for one of lesser ones.
            starts.append(-top - least)
    return sorted(set([start for start in starts if low <= start <= high]))


def step_at(kept, total):
    """The step of the stretch in which total lies; 1 below 0, where nothing is asked of it."""
    for _, high, step in kept:
        if high is None or total <= high:
            return step
    return None
