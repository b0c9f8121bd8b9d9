"""Values, scales and numbers that the tests go through, and what they reckon without the program."""

import itertools
import math
import random

from everyexact import errors

GREAT = 10 ** 60
MANY = 10 ** 30

TENS = ((99, 10), (999, 100), (9999, 0))
DENT = ((10, 4), (50, 0))
PAY = (((-20, 0, 30), 2), ((0, 5), 3))

# 10 ** 60 + 1 and 10 ** 60 - 1 as products of two integers with no common divisor.
ABOVE = (10 ** 20 + 1, 10 ** 40 - 10 ** 20 + 1)
BELOW = (10 ** 30 - 1, 10 ** 30 + 1)

# An item of forty values, the greatest number and the least one among them.
WIDE = (-GREAT,) + tuple(range(-18, 20)) + (GREAT,)


def nested(deep, wrap):
    value = 0
    for _ in range(deep):
        value = wrap(value)
    return value


def any_values():
    """Values of all kinds; neither scale, bag nor choice but where a test takes such ones out."""
    return [
        None, True, False, 0, 1, -1, 7, 10 ** 60, -10 ** 399, 10 ** 400 - 1,
        "", "7/2", "none", " ", "\n", "a b\nc", "x" * 20000, "9" * 20000,
        (0,), (1,), (True,), (None,), ("",), ((),), ((), ()), (0, 0), (5, 2), (0, 1, 2), ("bag", ()),
        [], [0], [()], [(5, 2)], [[5, 2]], {}, {"a": 1}, {(5, 2): None}, {0: [1], True: {}},
        nested(20, lambda value: (value,)), nested(20, lambda value: [value]), nested(20, lambda value: {"k": value}),
        (0,) * 3999, [0] * 3999, ((0, 2),) * 1333,
        errors.Unfit(), errors.BadScale(("rule", 1)), errors.BadLog([0]), (errors.BadText(),),
    ]


def plainly_fits(scale, number):
    """As [A4] tells it."""
    return all(
        -bound <= number <= bound or (step != 0 and number // step * step == number)
        for bound, step in scale
    )


def small_scales():
    """All scales of none to two of some small rules, and some of three to six."""
    rules = list(itertools.product((0, 1, 4, 6, 9), (0, 2, 3, 4, 6)))
    scales = [()] + [(rule,) for rule in rules] + list(itertools.product(rules, rules))
    source = random.Random(11)
    for many in (3, 3, 4, 4, 5, 6) * 40:
        bounds = [source.randrange(0, 25) for _ in range(many)]
        # Step 0 is rare, so that greater steps come up behind it.
        scales.append(tuple((bound, source.choice((2, 3, 4, 5, 6, 8, 12, 0))) for bound in bounds))
    return scales


def period(*scales):
    """Above all bounds what fits comes again after so many integers."""
    return math.lcm(*[step for scale in scales for _, step in scale if step != 0])


def top_bound(*scales):
    return max([bound for scale in scales for bound, _ in scale], default=0)


def great_scales():
    """Scales of one to forty rules with bounds to 10 ** 60, in no order."""
    source = random.Random(7)
    scales = [
        tuple((10 ** (20 + k) - 1, 10 ** (k + 1)) for k in range(39)) + ((10 ** 59 - 1, 0),),
        tuple((GREAT - k, 2 ** k) for k in range(1, 41)),
        ((GREAT, GREAT), (0, 2)),
        ((GREAT - 1, 0), (5, 5 ** 60), (GREAT, 2 ** 60)),
    ]
    for many in (1, 2, 3, 5, 8, 13, 21, 34, 40, 40, 40, 40):
        rules = []
        for _ in range(many):
            step = 2 ** source.randrange(0, 60) * 5 ** source.randrange(0, 60)
            bound = source.randrange(0, 10 ** source.randrange(1, 61))
            rules.append((bound, max(2, step)))
        scales.append(tuple(rules))
        scales.append(tuple(rules[:-1]) + ((source.randrange(10 ** 59, GREAT + 1), 0),))
        source.shuffle(rules)
        scales.append(tuple(rules))
    return scales


def numbers_near(scale):
    """Numbers at bounds and multiples of steps, and one off them, of both signs."""
    found = {0, GREAT, 10 ** 399, 10 ** 400 - 1}
    for bound, step in scale:
        found.update((bound, step, bound + step))
        if step != 0:
            found.update((bound // step * step, (bound // step + 1) * step, step * 10 ** 30))
    found |= {number + off for number in found for off in (-1, 1)}
    return sorted(found | {-number for number in found})


def small_bags():
    source = random.Random(17)
    bags = [(), (((0,), 1),), (((0,), 3), ((0, 2), 1)), (((-3, 0), 2),), (((0, 4), 4),), (((-1, 0, 1), 3),), PAY]
    for _ in range(60):
        kinds = []
        for _ in range(source.randrange(1, 4)):
            values = {source.randrange(-9, 10) for _ in range(source.randrange(0, 4))} | {0}
            kinds.append((tuple(sorted(values)), source.randrange(1, 3)))
        bags.append(tuple(kinds))
    return bags


def great_bags():
    """Bags of twelve kinds, with forty values or few, of both signs and of one, 10 ** 30 items each or few."""
    few = (((0,), 1), ((-5, 0), 7), ((0, 5), MANY))
    return [
        ((WIDE, MANY),) * 12,
        tuple((tuple(range(0, k + 1)), MANY - k) for k in range(28, 40)),
        tuple((tuple(range(-k, 1)), k) for k in range(28, 40)),
        (((0,), MANY),) * 12,
        (((0, GREAT), MANY), ((-GREAT, 0), MANY), ((0, 1), 1)),
        few * 4,
    ]


def taken(bag):
    """All ways in which each item by itself takes one of its values: rows with a value for each item."""
    items = [item for item, many in bag for _ in range(many)]
    return list(itertools.product(*items))


def told(bag, row):
    """The choice in which the items take the values of this row."""
    choice = []
    at = 0
    for item, many in bag:
        mine = row[at:at + many]
        choice.append(tuple(mine.count(value) for value in item))
        at += many
    return tuple(choice)


def all_sums(bag):
    """The sums of all choices, item by item."""
    sums = {0}
    for item, many in bag:
        for _ in range(many):
            sums = {total + value for total in sums for value in item}
    return sums


def plainly_exact(scale, bag):
    return all(plainly_fits(scale, total) for total in all_sums(bag))


def bags_to_five():
    """Small bags of no kind to five, of one sign and of both, with kinds of 0 alone, often of common multiples."""
    source = random.Random(31)
    bags = small_bags()
    for many, sign, unit in itertools.product(range(1, 6), (1, -1, 0), (1, 2, 3, 4, 6)):
        kinds = []
        for _ in range(many):
            low, high = (0, 5) if sign == 1 else (-5, 0) if sign == -1 else (-3, 3)
            values = {source.randrange(low, high + 1) * unit for _ in range(source.randrange(0, 4))} | {0}
            kinds.append((tuple(sorted(values)), source.randrange(1, 4)))
        bags.append(tuple(kinds))
        # One kind off the multiples of the others.
        bags.append(tuple(kinds[:-1]) + (((-1, 0, 1) if sign == 0 else (0, 1) if sign == 1 else (-1, 0), 1),))
    return bags


def near_scales(sums):
    """Scales whose bounds are the greatest sums that a step does not divide, one less and one more; and others."""
    scales = [()]
    for step in (2, 3, 4, 5, 6, 8, 12):
        apart = max([abs(total) for total in sums if total % step != 0], default=0)
        for bound in (apart - 1, apart, apart + 1):
            if bound >= 0:
                scales += [((bound, step),), ((bound, step), (bound, 1 + step)), ((bound + 1, 2 * step), (bound, step))]
    top = max(abs(total) for total in sums)
    for bound in (top - 1, top, top + 1):
        if bound >= 0:
            scales += [((bound, 0),), ((0, 2), (bound, 0)), ((bound, 0), (bound, 3), (bound, 0)), ((3, 2), (bound, 0), (5, 4))]
    return scales


def turned_bag(bag):
    """bag with all values turned in sign."""
    return tuple((tuple(-value for value in item[::-1]), many) for item, many in bag)


def all_trees(places):
    """All trees of these places, unlike as tuples."""
    if len(places) == 1:
        return list(places)
    found = []
    for many in range(1, len(places)):
        for lot in itertools.combinations(places, many):
            rest = tuple(place for place in places if place not in lot)
            found += itertools.product(all_trees(lot), all_trees(rest))
    return found


def lots_of(many):
    """All lots of so many places, as ascending tuples."""
    return [lot for size in range(many + 1) for lot in itertools.combinations(range(many), size)]


def plainly_exact_numbers(scale, numbers):
    sums = {0}
    for number in numbers:
        sums |= {total + number for total in sums}
    return all(plainly_fits(scale, total) for total in sums)


def few_numbers(most):
    """Rows of none to so many numbers, of one sign and of both, with noughts, equal ones and common multiples."""
    source = random.Random(107)
    rows = [(), (0,), (3,), (-3,), (0, 0), (4, 4), (4, -4), (60, 45, 55), (63, 37, 52, 48), (95, 95, 95), (50, 50, 5, 5)]
    for many, (low, high), unit in itertools.product(range(2, most + 1), ((-6, 6), (0, 9), (-9, 0)), (1, 3, 5)):
        for off in (0, 1):
            rows.append(tuple(unit * source.randrange(low, high + 1) for _ in range(many - 1)) + (off + unit * source.choice((low, high)),))
    return [row for row in rows if len(row) <= most]


def to_forty(scale, top):
    """Scales of forty rules that let the same as this one, to top: in its order, turned about, and with rules amid."""
    more = tuple((top + k, (2, 0, 3, 4)[k % 4]) for k in range(40 - len(scale)))
    middle = len(more) // 2
    return [scale + more, more + scale[::-1], more[:middle] + scale + more[middle:]]


def scales_for_sums(sums, source, many):
    """So many of near_scales, a forty-rule scale of each, and scales that ask for multiples of what the sums have in common."""
    top = max([abs(total) for total in sums])
    common = math.gcd(*sums)
    picked = source.sample(near_scales(sums), many)
    for step in (common, 2 * common):
        if step > 1:
            bounds = sorted({abs(total) for total in sums if total % step != 0} | {top})
            for bound in (0, source.choice(bounds), bounds[-1]):
                picked += [((bound, step),), ((top, 0), (bound, step)), ((bound, step), (max(0, top - 1), 0), (top, 3))]
    return picked + [source.choice(to_forty(scale, top)) for scale in picked if len(scale) > 0]
