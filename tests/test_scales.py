import itertools
import random
import unittest

from everyexact.scales import broken, fits, fitting_from, fitting_many, scale_error
from tests.calling import CallCase, ExampleCase
from tests.samples import (
    ABOVE, BELOW, GREAT, TENS, any_values, great_scales, numbers_near, period, plainly_fits, small_scales, top_bound,
)

EXAMPLES_A5 = """
    >>> from everyexact.scales import broken, fits, fitting_from, fitting_many, scale_error
    >>> tens = ((99, 10), (999, 100), (9999, 0))
    >>> [scale_error(value) for value in (tens, (), list(tens), ((0, 2),) * 40, ((0, 2),) * 41, None)]
    [None, None, 'form', None, 'form', 'form']
    >>> [scale_error(((7, 2), rule)) for rule in ((0, 0), (5, 1), (-1, 5), (5, True), (5,), [5, 2], (10 ** 60 + 1, 2), (0, -2))]
    [None, ('rule', 1), ('rule', 1), ('rule', 1), ('rule', 1), ('rule', 1), ('rule', 1), ('rule', 1)]
    >>> scale_error(((0, 10 ** 60),)), scale_error(((0, 10 ** 60), (9, 10))), scale_error(((0, 10 ** 60), (9, 7)))
    (None, None, 'great')
"""

EXAMPLES_A6 = """
    >>> [fits(tens, number) for number in (0, 99, 100, 101, -110, 990, 1010, 1100, -9900, 9999, 10000)]
    [True, True, True, False, True, True, False, True, True, False, False]
    >>> [broken(tens, number) for number in (-50, 101, 1010, 9999, 10000, -10 ** 80)], fits(((0, 2),), 10 ** 80), fits((), 7)
    ([None, 0, 1, 0, 2, 2], True, True)
"""

EXAMPLES_A7 = """
    >>> [fitting_many(tens, low, high) for low, high in ((0, 200), (-99, 99), (900, 1300), (-9999, 9999), (101, 109))]
    [111, 199, 14, 559, 0]
    >>> fitting_many((), -3, 3), fitting_many(((0, 2),), -3, 3), fitting_many(((0, 2),), -10 ** 60, 10 ** 60) == 10 ** 60 + 1
    (7, 3, True)
    >>> [fitting_from(tens, number) for number in (-10000, -105, 100, 101, 991, 1001, 9900, 9901)], fitting_from(((5, 10 ** 60),), 6) == 10 ** 60
    ([-9900, -100, 100, 110, 1000, 1100, 9900, None], True)
"""


class ExamplesTest(ExampleCase):
    def test_examples(self):
        self.assertEqual(self.run_examples(EXAMPLES_A5 + EXAMPLES_A6 + EXAMPLES_A7, {}), 10)


class ScaleErrorTest(CallCase):
    def test_scales(self):
        for scale in (
            (), TENS, ((0, 0),), ((GREAT, GREAT),), ((GREAT, 0),), ((0, 2),), ((0, GREAT),), ((GREAT, 2),),
            ((5, 2), (5, 3), (5, 0), (5, 2)), ((0, 0),) * 40, ((GREAT, GREAT),) * 40,
            tuple((k, 2 ** (k + 1)) for k in range(40)),
        ):
            self.assertCall(None, scale_error, value=scale)
        for scale in great_scales():
            self.assertCall(None, scale_error, value=scale)

    def test_form(self):
        for value in (((0, 2),) * 41, ((1, 1),) * 41, [(0, 2)], [], {}, {(0, 2): 1}, "", "7/2", None, 0, True):
            self.assertCall("form", scale_error, value=value)

    def test_any_value(self):
        for value in any_values():
            if not isinstance(value, tuple) or len(value) > 40:
                self.assertCall("form", scale_error, value=value)
            else:
                self.assertCall(("rule", 0), scale_error, value=value)

    def test_any_value_for_a_rule_or_its_parts(self):
        for value in any_values():
            if value != (5, 2) and value != (0, 0):
                self.assertCall(("rule", 1), scale_error, value=((7, 2), value, (9, 0)))
            if value is True or value is False or not isinstance(value, int):
                self.assertCall(("rule", 0), scale_error, value=((value, 2),))
                self.assertCall(("rule", 0), scale_error, value=((2, value),))

    def test_rules(self):
        for rule in (
            (5, 1), (5, -1), (5, -2), (5, -GREAT), (5, GREAT + 1), (-1, 2), (-GREAT, 2), (GREAT + 1, 2), (GREAT + 1, 0),
            (True, 2), (False, 2), (5, True), (5, False), (None, 2), (5, None), ("5", 2), (5, "2"), ((5,), 2), (5, (2,)),
            [5, 2], (5,), (5, 2, 0), (), "52", None, 0, True, {5: 2}, 10 ** 399,
        ):
            self.assertCall(("rule", 0), scale_error, value=(rule,))
            self.assertCall(("rule", 2), scale_error, value=((0, 0), (5, 2), rule))
            self.assertCall(("rule", 39), scale_error, value=((0, 2),) * 39 + (rule,))

    def test_great(self):
        for steps, expected in (
            (ABOVE, "great"), (BELOW, None), ((2 ** 60, 5 ** 60), None), ((2 ** 61, 5 ** 60), "great"),
            ((GREAT, GREAT // 2, 5), None), ((GREAT, 7), "great"), ((GREAT, 0, 10), None), ((0, GREAT, 3), "great"),
            ((GREAT - 1, GREAT), "great"), ((GREAT // 2 + 1, 2), "great" if (GREAT // 2 + 1) % 2 else None),
        ):
            for order in itertools.permutations(steps):
                self.assertCall(expected, scale_error, value=tuple((k, step) for k, step in enumerate(order)))
        self.assertCall("great", scale_error, value=tuple((0, GREAT - k) for k in range(40)))

    def test_order_of_errors(self):
        great = ((0, GREAT), (0, 7))
        self.assertCall(("rule", 2), scale_error, value=great + ((0, 1),))
        self.assertCall(("rule", 0), scale_error, value=((0, 1), (-1, 0)) + great)
        self.assertCall("form", scale_error, value=great * 20 + ((0, 1),))
        self.assertCall("form", scale_error, value=list(great))


class FitsTest(CallCase):
    def check(self, scale, number):
        expected = plainly_fits(scale, number)
        place = None if expected else [plainly_fits((rule,), number) for rule in scale].index(False)
        self.assertIs(fits(scale, number), expected)
        self.assertEqual(repr(broken(scale, number)), repr(place))

    def test_small(self):
        for scale in small_scales():
            for number in range(-30, 31):
                self.check(scale, number)

    def test_great(self):
        for scale in great_scales():
            for number in numbers_near(scale):
                self.check(scale, number)

    def test_step_nought_at_each_place(self):
        rules = ((3, 2), (5, 3), (20, 6))
        for place in range(4):
            scale = rules[:place] + ((9, 0),) + rules[place:]
            for number in range(-40, 41):
                self.check(scale, number)
        self.assertCall(0, broken, scale=((9, 0), (3, 2)), number=11)
        self.assertCall(1, broken, scale=((3, 2), (9, 0)), number=12)
        self.assertCall(False, fits, scale=((9, 0),), number=10 ** 399)
        self.assertCall(True, fits, scale=((9, 3),), number=3 * 10 ** 398)

    def test_at_the_edges(self):
        self.assertCall(True, fits, scale=((GREAT, 0),), number=-GREAT)
        self.assertCall(False, fits, scale=((GREAT, 0),), number=GREAT + 1)
        self.assertCall(True, fits, scale=((0, 0),), number=0)
        self.assertCall(False, fits, scale=((0, 0),), number=-1)
        self.assertCall(None, broken, scale=(), number=-10 ** 399)
        self.assertCall(0, broken, scale=((0, GREAT),), number=GREAT - 1)
        self.assertCall(None, broken, scale=((0, GREAT),), number=-10 ** 399)


class FittingTest(CallCase):
    def check_small(self, scale, low, high):
        numbers = [number for number in range(low, high + 1) if plainly_fits(scale, number)]
        self.assertEqual(repr(fitting_many(scale, low, high)), repr(len(numbers)))

    def test_many_against_all(self):
        for scale in small_scales()[::3]:
            for low in range(-31, 32, 5):
                for high in [low, low + 1] + list(range(low + 2, 40, 7)):
                    self.check_small(scale, low, high)

    def test_from_against_all(self):
        for scale in small_scales():
            # If nothing fits above all bounds within a period nothing does at all.
            end = top_bound(scale) + period(scale)
            fitting = [number for number in range(-45, end + 45) if plainly_fits(scale, number)]
            for number in range(-31, 32):
                expected = min([one for one in fitting if one >= number], default=None)
                self.assertEqual(repr(fitting_from(scale, number)), repr(expected))

    def test_calls(self):
        self.assertCall(559, fitting_many, scale=TENS, low=-9999, high=9999)
        self.assertCall(1, fitting_many, scale=TENS, low=110, high=110)
        self.assertCall(0, fitting_many, scale=TENS, low=-111, high=-111)
        self.assertCall(0, fitting_many, scale=TENS, low=10000, high=GREAT)
        self.assertCall(2 * GREAT + 1, fitting_many, scale=(), low=-GREAT, high=GREAT)
        self.assertCall(-9900, fitting_from, scale=TENS, number=-GREAT)
        self.assertCall(None, fitting_from, scale=TENS, number=GREAT)
        self.assertCall(0, fitting_from, scale=((0, 0),), number=-GREAT)
        self.assertCall(0, fitting_from, scale=((0, 0),), number=0)
        self.assertCall(None, fitting_from, scale=((0, 0),), number=1)

    def test_above_the_greatest_number(self):
        self.assertCall(GREAT + 6, fitting_from, scale=((0, 7),), number=GREAT)
        self.assertCall(2 * (GREAT - 1), fitting_from, scale=((0, GREAT - 1),), number=GREAT)
        self.assertCall(GREAT, fitting_from, scale=((0, GREAT),), number=GREAT)
        self.assertCall(GREAT + 6, fitting_from, scale=((GREAT - 1, 7),), number=GREAT)
        self.assertCall(None, fitting_from, scale=((GREAT - 1, 0),), number=GREAT)
        self.assertCall(-GREAT + 1, fitting_from, scale=((GREAT - 1, 0),), number=-GREAT)

    def test_great_stretches_at_once(self):
        scale = great_scales()[0]
        self.assertEqual(len(scale), 40)
        # 0 to 10 ** 20 - 1, and 9 * 10 ** 19 multiples of each further power of 10.
        above = 10 ** 20 - 1 + 39 * 9 * 10 ** 19
        self.assertCall(2 * above + 1, fitting_many, scale=scale, low=-GREAT, high=GREAT)
        self.assertCall(above, fitting_many, scale=scale, low=1, high=GREAT)
        self.assertCall(above + 1, fitting_many, scale=scale, low=-GREAT, high=0)
        self.assertCall(-(10 ** 59 - 10 ** 39), fitting_from, scale=scale, number=-GREAT)

    def test_great_side_by_side(self):
        source = random.Random(3)
        for scale in great_scales():
            whole = fitting_many(scale, -GREAT, GREAT)
            cuts = [number for number in numbers_near(scale) if -GREAT <= number < GREAT]
            for cut in source.sample(cuts, min(20, len(cuts))):
                parts = fitting_many(scale, -GREAT, cut), fitting_many(scale, cut + 1, GREAT)
                self.assertEqual(sum(parts), whole)
                self.assertEqual(fitting_many(scale, cut, cut), int(plainly_fits(scale, cut)))

    def test_great_from(self):
        for scale in great_scales():
            for number in numbers_near(scale):
                if -GREAT <= number <= GREAT:
                    self.check_from(scale, number)

    def check_from(self, scale, number):
        found = fitting_from(scale, number)
        if found is None:
            self.assertTrue(number > 0 and 0 in [step for _, step in scale])
            self.assertEqual(fitting_many(scale, number, GREAT), 0)
        else:
            self.assertTrue(found >= number and plainly_fits(scale, found))
            last = min(found - 1, GREAT)
            self.assertEqual(fitting_many(scale, number, last) if number <= last else 0, 0)


class WhatHoldsTest(unittest.TestCase):
    def answers(self, scale, numbers):
        told = [(fits(scale, number), fitting_from(scale, number)) for number in numbers]
        return told + [fitting_many(scale, low, high) for low, high in zip(numbers, numbers[1:])]

    def test_a_rule_more_lets_nothing_new_fit(self):
        for scale in small_scales() + great_scales():
            for number in numbers_near(scale):
                fit = [fits(scale[:many], number) for many in range(len(scale) + 1)]
                self.assertEqual(fit, sorted(fit, reverse=True))

    def test_order_of_rules(self):
        source = random.Random(5)
        for scale in small_scales()[::5] + great_scales():
            numbers = [number for number in numbers_near(scale) if -GREAT <= number <= GREAT]
            expected = self.answers(scale, numbers)
            shuffled = tuple(source.sample(scale, len(scale)))
            for other in (scale[::-1], tuple(sorted(scale)), shuffled):
                self.assertEqual(self.answers(other, numbers), expected)
                self.assertIs(scale_error(other), None)

    def test_between_bounds_multiples_fit(self):
        for scale in small_scales() + great_scales():
            for number in numbers_near(scale):
                lesser = [rule for rule in scale if rule[0] < abs(number)]
                none = 0 in [step for _, step in lesser]
                self.assertEqual(fits(scale, number), not none and number % period(lesser) == 0)

    def test_both_signs_and_nought(self):
        for scale in small_scales() + great_scales():
            self.assertIs(fits(scale, 0), True)
            for number in numbers_near(scale):
                self.assertEqual(fits(scale, number), fits(scale, -number))


if __name__ == "__main__":
    unittest.main()
