"""Bags of items with some values each, choices of them, and their sums."""

from everyexact.bounds import MAX_KINDS, MAX_MANY, MAX_VALUES
from everyexact.values import is_integer, is_number, is_row, row_error


def bag_error(value):
    """None for a bag, otherwise what is wrong first."""
    return row_error(value, MAX_KINDS, "kind", is_kind)


def is_kind(value):
    if not is_row(value, 2):
        return False
    item, many = value
    return is_item(item) and is_integer(many) and 1 <= many <= MAX_MANY


def is_item(value):
    if not isinstance(value, tuple) or not 1 <= len(value) <= MAX_VALUES:
        return False
    return all([is_number(number) for number in value]) and is_ascending(value) and 0 in value


def is_ascending(numbers):
    return all([one < other for one, other in zip(numbers, numbers[1:])])


def choice_error(bag, value):
    """None for a choice of bag, otherwise what is wrong first."""
    if not is_row(value, len(bag)):
        return "form"
    for place, kind in enumerate(bag):
        if not is_choice_of_kind(kind, value[place]):
            return ("kind", place)
    return None


def is_choice_of_kind(kind, value):
    item, many = kind
    if not is_row(value, len(item)):
        return False
    return all([is_integer(count) and count >= 0 for count in value]) and sum(value) == many


def sum_of(bag, choice):
    """The sum of all values that are taken in choice."""
    total = 0
    for (item, _), counts in zip(bag, choice):
        for number, count in zip(item, counts):
            total += number * count
    return total


def ends(bag):
    """The least and the greatest sum of all choices of bag."""
    least = sum([item[0] * many for item, many in bag])
    greatest = sum([item[-1] * many for item, many in bag])
    return (least, greatest)


def looks(bag):
    """The least and the greatest sum, and all by which one item takes another value there; each once, ascending."""
    least, greatest = ends(bag)
    found = [least, greatest]
    for item, _ in bag:
        found.extend([least - item[0] + number for number in item])
        found.extend([greatest - item[-1] + number for number in item])
    return tuple(sorted(set(found)))
