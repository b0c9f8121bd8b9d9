"""How many figures sums need in a base, how many items fit, and numbers that are cut ([K6])."""

from everyexact.addends import exact_numbers
from everyexact.bags import looks
from everyexact.bounds import MAX_MANY
from everyexact.exactness import exact
from everyexact.powers import goes, power, stripped


def figures_of(base, number):
    """How many figures number has in base without the noughts at its end, 0 for 0."""
    rest = abs(stripped(base, number))
    many = 0
    while rest > 0:
        rest = rest // base
        many += 1
    return many


def least_figures(base, bag):
    """The least number of figures, from 1 on, with which the sums of all choices of bag are keepable in base."""
    return max([1] + [figures_of(base, total) for total in looks(bag)])


def mark(base, numbers):
    """(e, A, B): how often base goes into all numbers, and the greatest sums up and down with a figure there."""
    end = min([goes(base, number) for number in numbers if number != 0])
    least = min([abs(number) for number in numbers if number != 0 and goes(base, number) == end])
    above = sum([number for number in numbers if number > 0])
    below = -sum([number for number in numbers if number < 0])
    return (end, with_figure(base, end, above, least), with_figure(base, end, below, least))


def with_figure(base, place, total, less):
    """total, or so much less if its figure at this place is 0."""
    if total // power(base, place) % base == 0:
        return total - less
    return total


def greatest_many(scale, item):
    """The greatest number of such items, at most MAX_MANY, whose sums all fit scale."""
    low, high = 0, MAX_MANY
    # With fewer items all fits, too: so halving finds the greatest number.
    while low < high:
        middle = (low + high + 1) // 2
        if exact(scale, ((item, middle),)):
            low = middle
        else:
            high = middle - 1
    return low


def cut(base, places, number):
    """number with noughts in the place of its last figures in base, so many."""
    left = abs(number) % power(base, places)
    return number - left if number > 0 else number + left


def least_cut(scale, base, numbers):
    """At how many places numbers have to be cut, at the least, to be exact by scale."""
    places = 0
    # When all are noughts they are exact, so this ends.
    while not exact_numbers(scale, tuple([cut(base, places, number) for number in numbers])):
        places += 1
    return places
