"""Numbers that are added, each taken or left out."""

from everyexact.bounds import MAX_KINDS, MAX_NUMBERS
from everyexact.errors import Unfit
from everyexact.exactness import exact
from everyexact.values import is_number, row_error


def numbers_error(value):
    """None for numbers, otherwise what is wrong first."""
    return row_error(value, MAX_NUMBERS, "number", is_number)


def bag_of(numbers):
    """The bag of the unlike numbers but 0, ascending; Unfit if they are more than a bag has kinds."""
    kinds = kinds_of(numbers)
    if len(kinds) > MAX_KINDS:
        raise Unfit()
    return kinds


def kinds_of(numbers):
    """The kinds of bag_of, however many they are."""
    unlike = sorted(set(numbers) - {0})
    return tuple([(item_of(number), numbers.count(number)) for number in unlike])


def item_of(number):
    """The item of 0 and number."""
    return tuple(sorted({0, number}))


def exact_numbers(scale, numbers):
    """Whether all sums of some of numbers fit scale."""
    return exact(scale, kinds_of(numbers))
