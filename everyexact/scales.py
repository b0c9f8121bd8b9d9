"""Scales: which integers fit, and how many of them lie in a stretch."""

from math import lcm

from everyexact.bounds import MAX_NUMBER, MAX_RULES, MAX_STEP
from everyexact.values import is_integer, is_row, row_error


def scale_error(value):
    """None for a scale, otherwise what is wrong first."""
    error = row_error(value, MAX_RULES, "rule", is_rule)
    if error is None and common_step(value) > MAX_STEP:
        return "great"
    return error


def is_rule(value):
    if not is_row(value, 2):
        return False
    bound, step = value
    return is_integer(bound) and 0 <= bound <= MAX_NUMBER and is_step(step)


def is_step(value):
    return is_integer(value) and (value == 0 or 2 <= value <= MAX_STEP)


def common_step(rules):
    """The least common multiple of all steps but 0."""
    common = 1
    for _, step in rules:
        if step != 0:
            common = lcm(common, step)
    return common


def fits(scale, number):
    """Whether number fits all rules of scale."""
    return broken(scale, number) is None


def broken(scale, number):
    """The place of the first rule that number does not fit, None if it fits all."""
    for place, rule in enumerate(scale):
        if not fits_rule(rule, number):
            return place
    return None


def fits_rule(rule, number):
    bound, step = rule
    return abs(number) <= bound or (step != 0 and number % step == 0)


def stretches(scale):
    """Triples (low, high, step), ascending: of the integers from low to high those fit that are multiples of step.

    high is None in the last one if it has no end, and low - 1 where there are none, between rules with one bound.
    What is above 0 and lies in no stretch does not fit.
    """
    rows = []
    low = 0
    common = 1
    for bound, step in sorted(scale):
        rows.append((low, bound, common))
        low = bound + 1
        if step == 0:
            return rows
        common = lcm(common, step)
    rows.append((low, None, common))
    return rows


def first_multiple(step, low):
    """The least multiple of step from low on."""
    return (low + step - 1) // step * step


def fitting_many(scale, low, high):
    """How many integers from low to high fit scale."""
    if low > 0:
        return many_to(scale, high) - many_to(scale, low - 1)
    if high < 0:
        return many_to(scale, -low) - many_to(scale, -high - 1)
    # Both sides count 0.
    return many_to(scale, -low) + many_to(scale, high) - 1


def many_to(scale, top):
    """How many integers from 0 to top fit scale."""
    many = 0
    for low, high, step in stretches(scale):
        last = lesser(top, high)
        if low <= last:
            many += last // step - (low - 1) // step
    return many


def lesser(top, high):
    """The lesser one, where high may be None: no end."""
    return top if high is None else min(top, high)


def fitting_from(scale, number):
    """The least integer from number on that fits scale, None if there is none."""
    if number > 0:
        return least_from(scale, number)
    # -x fits if x does, so below 0 the greatest one is asked for.
    return -greatest_to(scale, -number)


def least_from(scale, number):
    for low, high, step in stretches(scale):
        found = first_multiple(step, max(low, number))
        if high is None or found <= high:
            return found
    return None


def greatest_to(scale, number):
    """The greatest integer from 0 to number that fits scale."""
    greatest = 0
    for low, high, step in stretches(scale):
        found = lesser(number, high) // step * step
        if found >= low:
            greatest = found
    return greatest
