import itertools
import math
import random
import unittest

from everyexact.errors import Unfit
from everyexact.ladders import alike, both, ladder, parting, within
from everyexact.scales import fits, scale_error
from tests.calling import CallCase, ExampleCase
from tests.samples import (
    ABOVE, BELOW, DENT, GREAT, TENS, great_scales, numbers_near, period, plainly_fits, small_scales, top_bound,
)

EXAMPLES_B2 = """
    >>> from everyexact.ladders import alike, both, ladder, parting, within
    >>> tens, dent = ((99, 10), (999, 100), (9999, 0)), ((10, 4), (50, 0))
    >>> ladder(tens), ladder(dent)
    (((99, 10), (990, 100), (9800, 9900), (9900, 0)), ((9, 2), (10, 4), (44, 48), (48, 0)))
    >>> ladder(()), ladder(((0, 2),)), ladder(((5, 6), (20, 4))), ladder(((0, 0),)), ladder(((0, 10), (7, 4), (7, 6)))
    ((), ((0, 2),), ((5, 6), (18, 12)), ((0, 0),), ((0, 60),))
    >>> ladder(((3, 0), (10, 2))), ladder(((1, 0),)), ladder(((2, 0),)), ladder(((10 ** 60, 2),)) == ((10 ** 60 - 1, 2),)
    (((2, 3), (3, 0)), ((1, 0),), ((1, 2), (2, 0)), True)
"""

EXAMPLES_B3 = """
    >>> alike(tens, ((99, 10), (990, 100), (9900, 0))), alike(tens, tens[:2]), alike(tens, tens[::-1]), alike(((0, 4), (0, 6)), ((0, 12),))
    (True, False, True, True)
    >>> parting(tens, tens[:2]), parting((), tens), parting(((9, 2),), ((10, 4),)), parting(((5, 0),), ((0, 0),)), parting(dent, ((48, 4), (10, 4), (49, 0)))
    (10000, 101, 14, 1, None)
    >>> within(tens, tens[:2]), within(tens[:2], tens), within(((0, 6),), ((0, 2),)), within(((9, 2),), ((10, 4),)), within(((0, 0),), ((0, 7),))
    (True, False, True, False, True)
"""

EXAMPLES_B4 = """
    >>> both(((0, 4),), ((0, 6),)), both(tens, ((50, 20),)), both((), dent) == ladder(dent)
    (((0, 12),), ((49, 10), (50, 20), (980, 100), (9800, 9900), (9900, 0)), True)
    >>> both(((0, 10 ** 60),), ((0, 7),))
    raises Unfit()
"""


def plain_ladder(rules):
    """As [B1] tells it: reckoned one by one, to some multiples of all steps above all bounds."""
    top = top_bound(rules)
    fitting = [number for number in range(1, top + 3 * period(rules) + 1) if plainly_fits(rules, number)]
    pairs = []
    ahead = 1
    for bound in range(top + 2):
        divisor = math.gcd(*[number for number in fitting if number > bound])
        if divisor != ahead:
            pairs.append((bound, divisor))
        ahead = divisor
    return tuple(pairs)


def plain_parting(one, other):
    end = top_bound(one, other) + period(one, other) + 1
    return next((number for number in range(end) if plainly_fits(one, number) != plainly_fits(other, number)), None)


def plain_within(one, other):
    end = top_bound(one, other) + period(one, other) + 1
    return all(plainly_fits(other, number) for number in range(end) if plainly_fits(one, number))


def small_pairs():
    source = random.Random(23)
    scales = small_scales()
    pairs = [(source.choice(scales), source.choice(scales)) for _ in range(1500)]
    # Scales made of one another are alike, or within one another, more often than others.
    for scale in source.sample(scales, 400):
        pairs.append((scale, scale[::-1]))
        pairs.append((scale, scale[:-1]))
        pairs.append((scale, ladder(scale)))
        pairs.append((scale, tuple((bound + 1, step) for bound, step in scale)))
    return pairs


def great_pairs():
    scales = great_scales() + [(), ((0, 0),), ((0, GREAT),), ((0, GREAT - 1),), ((GREAT, 7),), ((GREAT, 14),)]
    return list(itertools.product(scales[::2], scales[1::2])) + [(scale, scale[:-1]) for scale in scales]


class ExamplesTest(ExampleCase):
    def test_examples(self):
        self.assertEqual(self.run_examples(EXAMPLES_B2 + EXAMPLES_B3 + EXAMPLES_B4, {}), 10)


class LadderTest(CallCase):
    def test_against_all_that_fit(self):
        for scale in small_scales():
            self.assertCall(plain_ladder(scale), ladder, scale=scale)

    def test_bounds_at_multiples_and_one_off(self):
        for bound, step, end in itertools.product(range(5), (2, 3, 4, 6), range(4, 26)):
            for scale in (((bound, step), (end, 0)), ((bound, step), (end, 12)), ((end, 5), (bound, step), (30, 0))):
                self.assertCall(plain_ladder(scale), ladder, scale=scale)

    def test_step_nought_at_each_place(self):
        rules = ((3, 2), (7, 3), (20, 4))
        for place, bound in itertools.product(range(4), range(26)):
            scale = rules[:place] + ((bound, 0),) + rules[place:]
            self.assertCall(plain_ladder(scale), ladder, scale=scale)

    def check_great(self, rules, pairs):
        """pairs are the ladder of rules, by what [B5] says of it."""
        steps = [step for _, step in pairs]
        bounds = [bound for bound, _ in pairs]
        self.assertTrue(all(one < other for one, other in zip(bounds, bounds[1:])))
        self.assertTrue(all(one != other and one != 0 and other % one == 0 for one, other in zip(steps, steps[1:])))
        for number in numbers_near(rules) + numbers_near(pairs):
            self.assertEqual(plainly_fits(rules, number), plainly_fits(pairs, number))
        # The greatest common divisor changes only at integers that fit, and 0.
        for (bound, step), ahead in zip(pairs, [1] + steps):
            self.assertTrue(plainly_fits(rules, bound))
            self.assertEqual(math.gcd(bound, step) if bound else 1, ahead)

    def test_great(self):
        for scale in great_scales():
            self.check_great(scale, self.called(ladder, scale=scale))

    def test_forty_falling_bounds(self):
        scale = tuple((10 ** (60 - k), 2 ** (40 - k)) for k in range(40))
        self.check_great(scale, self.called(ladder, scale=scale))
        self.assertCall(ladder(scale[::-1]), ladder, scale=scale)
        stairs = tuple((100 * (40 - k) + 1, 2 ** (40 - k)) for k in range(40))
        self.check_great(stairs, self.called(ladder, scale=stairs))

    def test_more_pairs_than_rules(self):
        # Each stretch ends with an integer that is no multiple of the next step.
        scale = tuple((3 * 4 ** k, 4 ** (k + 1) // 2) for k in range(39)) + ((4 ** 40, 0),)
        self.assertIsNone(scale_error(scale))
        pairs = self.called(ladder, scale=scale)
        self.check_great(scale, pairs)
        scale = tuple((2 ** k * 10 ** 20 - 1, 2 ** (2 * k + 2)) for k in range(40))
        self.assertIsNone(scale_error(scale))
        pairs = self.called(ladder, scale=scale)
        self.check_great(scale, pairs)
        self.assertGreater(len(pairs), 40)
        self.assertEqual(scale_error(pairs), "form")

    def test_rules_turned_about_or_twice(self):
        source = random.Random(29)
        for scale in small_scales()[::4] + great_scales():
            expected = ladder(scale)
            for other in (scale[::-1], scale + scale, tuple(source.sample(scale, len(scale))), scale[1:] + scale):
                self.assertEqual(ladder(other), expected)

    def test_its_own_ladder(self):
        for scale in small_scales() + great_scales():
            pairs = ladder(scale)
            if scale_error(pairs) is None:
                self.assertEqual(ladder(pairs), pairs)
            else:
                self.assertGreater(len(pairs), 40)


class PairsTest(CallCase):
    def test_against_all_integers(self):
        for one, other in small_pairs():
            apart = plain_parting(one, other)
            self.assertEqual(repr(parting(one, other)), repr(apart))
            self.assertEqual(repr(parting(other, one)), repr(apart))
            self.assertIs(alike(one, other), apart is None)
            self.assertIs(alike(other, one), apart is None)
            self.assertIs(within(one, other), plain_within(one, other))
            self.assertIs(within(other, one), plain_within(other, one))

    def test_great(self):
        for one, other in great_pairs():
            apart = self.called(parting, one=one, other=other)
            self.assertCall(apart, parting, one=other, other=one)
            self.assertCall(apart is None, alike, one=one, other=other)
            self.assertCall(apart is None, alike, one=other, other=one)
            held = self.called(within, one=one, other=other), self.called(within, one=other, other=one)
            self.assertEqual(held == (True, True), apart is None)
            if apart is not None:
                self.check_parting(one, other, apart, held)

    def check_parting(self, one, other, apart, held):
        fit = fits(one, apart), fits(other, apart)
        self.assertNotEqual(*fit)
        # What fits just the one at the parting shows that this one is not within the other.
        self.assertFalse(held[0] if fit[0] else held[1])
        for number in numbers_near(one) + numbers_near(other):
            if abs(number) < apart:
                self.assertEqual(plainly_fits(one, number), plainly_fits(other, number))

    def test_steps_without_a_common_multiple(self):
        tall, near = ((0, GREAT),), ((0, GREAT - 1),)
        self.assertCall(GREAT - 1, parting, one=tall, other=near)
        self.assertCall(False, alike, one=tall, other=near)
        self.assertCall(False, within, one=tall, other=near)
        self.assertCall(False, within, one=near, other=tall)
        self.assertCall(False, within, one=tall, other=tuple((GREAT, step) for step in BELOW))
        self.assertCall(True, within, one=((5, GREAT), (GREAT, 0)), other=((GREAT, GREAT - 1),))
        self.assertCall(True, within, one=((0, GREAT), (2 * 10 ** 59, 0)), other=((0, GREAT - 1),))

    def test_parting_above_the_greatest_number(self):
        self.assertCall(GREAT + 6, parting, one=((GREAT, 7),), other=((GREAT, 0),))
        # 10 ** 60 + 6 is a multiple of 14, too.
        self.assertCall(GREAT + 13, parting, one=((GREAT, 7),), other=((GREAT, 14),))
        self.assertCall(GREAT + 1, parting, one=(), other=((GREAT, 2),))
        self.assertCall(2 * (GREAT - 1), parting, one=((GREAT, GREAT - 1),), other=((GREAT, GREAT),))
        self.assertCall(GREAT, parting, one=((0, GREAT),), other=((0, 0),))
        self.assertCall(2 * GREAT, parting, one=((0, GREAT),), other=((GREAT, 0), (0, GREAT)))

    def test_rules_more_lie_within(self):
        for scale in small_scales()[::7] + great_scales():
            for many in range(len(scale) + 1):
                self.assertIs(within(scale, scale[:many]), True)
                self.assertIs(within(scale[:many], scale), parting(scale[:many], scale) is None)


class BothTest(CallCase):
    def test_against_all_that_fit(self):
        for one, other in small_pairs()[::3]:
            expected = plain_ladder(one + other)
            self.assertCall(expected, both, one=one, other=other)
            self.assertCall(expected, both, one=other, other=one)
            self.assertIs(within(one, other), expected == ladder(one))

    def test_unfit_exactly_above_the_bound(self):
        for one, other, fit in (
            (2 ** 60, 5 ** 60, True), (2 ** 61, 5 ** 60, False), (BELOW[0], BELOW[1], True), (ABOVE[0], ABOVE[1], False),
            (GREAT, GREAT, True), (GREAT, 10, True), (GREAT, 7, False), (GREAT, GREAT - 1, False), (GREAT, 0, True),
            (0, 0, True), (2 * 10 ** 59, 5, True), (2 * 10 ** 59, 25, True), (3 * 10 ** 59, 4, True), (3 * 10 ** 59, 5 ** 60, False),
        ):
            for bounds in ((0, 0), (GREAT, 0), (0, GREAT), (9, 5)):
                pair = ((bounds[0], one),), ((bounds[1], other),)
                for left, right in (pair, pair[::-1]):
                    if fit:
                        self.assertCall(ladder(left + right), both, one=left, other=right)
                    else:
                        self.assertFails(Unfit(), both, one=left, other=right)
        self.assertCall(((0, GREAT),), both, one=((0, 2 ** 60),), other=((0, 5 ** 60),))
        # Though nothing above its bound fits the other one the common multiple is too great.
        self.assertFails(Unfit(), both, one=((0, 0), (0, GREAT)), other=((0, 7),))

    def test_great(self):
        case = LadderTest()
        for one, other in great_pairs():
            if period(one, other) > GREAT:
                self.assertFails(Unfit(), both, one=one, other=other)
                continue
            pairs = self.called(both, one=one, other=other)
            case.check_great(one + other, pairs)
            self.assertCall(pairs, both, one=other, other=one)
            self.assertIs(within(one, other), pairs == ladder(one))
            self.assertIs(within(other, one), pairs == ladder(other))

    def test_with_none_and_itself(self):
        for scale in small_scales()[::5] + great_scales():
            expected = ladder(scale)
            self.assertCall(expected, both, one=scale, other=())
            self.assertCall(expected, both, one=(), other=scale)
            self.assertCall(expected, both, one=scale, other=scale)

    def test_alike_exactly_by_ladders(self):
        for one, other in small_pairs() + great_pairs():
            self.assertIs(alike(one, other), ladder(one) == ladder(other))


if __name__ == "__main__":
    unittest.main()
