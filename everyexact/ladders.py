"""Ladders: what scales let, told in one way.

What is asked of scales here is reckoned for any rows of rules: those of two scales together may be more than a scale
has, and their steps need not have a common multiple that a scale could have.
"""

from math import gcd

from everyexact.bounds import MAX_STEP
from everyexact.errors import Unfit
from everyexact.scales import common_step, first_multiple, fits_rule, stretches


def ladder(scale):
    """The pairs (b, g), ascending, at which g, the greatest common divisor of all above b that fit, changes."""
    pairs = []
    ahead = 1
    for bound, divisor in divisors(scale):
        if divisor != ahead:
            pairs.append((bound, divisor))
            ahead = divisor
    return tuple(pairs)


def divisors(scale):
    """Pairs (b, g) as in a ladder, ascending, with 0 and all b at which g may change."""
    pairs = []
    divisor = 0
    for low, high, step in stretches(scale)[::-1]:
        if high is None:
            divisor = step
            continue
        # 0 may be the first one: it changes nothing, as gcd(divisor, 0) is divisor.
        first = first_multiple(step, low)
        last = high // step * step
        if first <= last:
            pairs.append((last, divisor))
            divisor = gcd(divisor, last)
        if first < last:
            # Two neighbours have step in common, and so have all that fit above them.
            pairs.append((last - step, divisor))
            divisor = step
    pairs.append((0, divisor))
    return pairs[::-1]


def alike(one, other):
    """Whether the same integers fit one and other."""
    return ladder(one) == ladder(other)


def parting(one, other):
    """The least integer from 0 on that fits just one of both, None if they are alike."""
    return min(strangers(one, other) + strangers(other, one), default=None)


def within(one, other):
    """Whether all integers that fit one fit other."""
    return strangers(one, other) == []


def strangers(one, other):
    """For each rule of other the least integer from 0 on that fits one, but not this rule, where there is one."""
    found = [least_stranger(one, rule) for rule in other]
    return [number for number in found if number is not None]


def least_stranger(scale, rule):
    bound, _ = rule
    for low, high, step in stretches(scale):
        first = first_multiple(step, max(low, bound + 1))
        # If the rule's step divides two neighbours it divides their difference, and so all of the stretch.
        for number in (first, first + step):
            if (high is None or number <= high) and not fits_rule(rule, number):
                return number
    return None


def both(one, other):
    """The ladder of the integers that fit one and other; Unfit if their steps have no common multiple for a scale."""
    rules = one + other
    if common_step(rules) > MAX_STEP:
        raise Unfit()
    return ladder(rules)
