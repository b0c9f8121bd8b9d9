"""Values, scales and numbers that the tests go through, and what they reckon without the program."""

import itertools
import math
import random

from everyexact import errors

GREAT = 10 ** 60

TENS = ((99, 10), (999, 100), (9999, 0))
DENT = ((10, 4), (50, 0))

# 10 ** 60 + 1 and 10 ** 60 - 1 as products of two integers with no common divisor.
ABOVE = (10 ** 20 + 1, 10 ** 40 - 10 ** 20 + 1)
BELOW = (10 ** 30 - 1, 10 ** 30 + 1)


def nested(deep, wrap):
    value = 0
    for _ in range(deep):
        value = wrap(value)
    return value


def any_values():
    """Values of all kinds; neither scale, bag nor choice but where a test takes such ones out."""
    return [
        None, True, False, 0, 1, -1, 7, 10 ** 60, -10 ** 399, 10 ** 400 - 1,
        "", "7/2", "none", " ", "\n", "a b\nc", "x" * 20000, "9" * 20000,
        (0,), (1,), (True,), (None,), ("",), ((),), ((), ()), (0, 0), (5, 2), (0, 1, 2), ("bag", ()),
        [], [0], [()], [(5, 2)], [[5, 2]], {}, {"a": 1}, {(5, 2): None}, {0: [1], True: {}},
        nested(20, lambda value: (value,)), nested(20, lambda value: [value]), nested(20, lambda value: {"k": value}),
        (0,) * 3999, [0] * 3999, ((0, 2),) * 1333,
        errors.Unfit(), errors.BadScale(("rule", 1)), errors.BadLog([0]), (errors.BadText(),),
    ]


def plainly_fits(scale, number):
    """As [A4] tells it."""
    return all(
        -bound <= number <= bound or (step != 0 and number // step * step == number)
        for bound, step in scale
    )


def small_scales():
    """All scales of none to two of some small rules, and some of three to six."""
    rules = list(itertools.product((0, 1, 4, 6, 9), (0, 2, 3, 4, 6)))
    scales = [()] + [(rule,) for rule in rules] + list(itertools.product(rules, rules))
    source = random.Random(11)
    for many in (3, 3, 4, 4, 5, 6) * 40:
        bounds = [source.randrange(0, 25) for _ in range(many)]
        # Step 0 is rare, so that greater steps come up behind it.
        scales.append(tuple((bound, source.choice((2, 3, 4, 5, 6, 8, 12, 0))) for bound in bounds))
    return scales


def period(*scales):
    """Above all bounds what fits comes again after so many integers."""
    return math.lcm(*[step for scale in scales for _, step in scale if step != 0])


def top_bound(*scales):
    return max([bound for scale in scales for bound, _ in scale], default=0)


def great_scales():
    """Scales of one to forty rules with bounds to 10 ** 60, in no order."""
    source = random.Random(7)
    scales = [
        tuple((10 ** (20 + k) - 1, 10 ** (k + 1)) for k in range(39)) + ((10 ** 59 - 1, 0),),
        tuple((GREAT - k, 2 ** k) for k in range(1, 41)),
        ((GREAT, GREAT), (0, 2)),
        ((GREAT - 1, 0), (5, 5 ** 60), (GREAT, 2 ** 60)),
    ]
    for many in (1, 2, 3, 5, 8, 13, 21, 34, 40, 40, 40, 40):
        rules = []
        for _ in range(many):
            step = 2 ** source.randrange(0, 60) * 5 ** source.randrange(0, 60)
            bound = source.randrange(0, 10 ** source.randrange(1, 61))
            rules.append((bound, max(2, step)))
        scales.append(tuple(rules))
        scales.append(tuple(rules[:-1]) + ((source.randrange(10 ** 59, GREAT + 1), 0),))
        source.shuffle(rules)
        scales.append(tuple(rules))
    return scales


def numbers_near(scale):
    """Numbers at bounds and multiples of steps, and one off them, of both signs."""
    found = {0, GREAT, 10 ** 399, 10 ** 400 - 1}
    for bound, step in scale:
        found.update((bound, step, bound + step))
        if step != 0:
            found.update((bound // step * step, (bound // step + 1) * step, step * 10 ** 30))
    found |= {number + off for number in found for off in (-1, 1)}
    return sorted(found | {-number for number in found})
