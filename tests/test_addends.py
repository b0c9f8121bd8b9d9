import itertools
import random
import unittest

from everyexact.addends import bag_of, exact_numbers, numbers_error
from everyexact.bags import bag_error
from everyexact.errors import Unfit
from everyexact.exactness import exact
from tests.calling import CallCase, ExampleCase
from tests.samples import GREAT, TENS, any_values, great_scales, near_scales, plainly_exact_numbers, small_scales

EXAMPLES_D2 = """
    >>> from everyexact.addends import bag_of, exact_numbers, numbers_error
    >>> tens = ((99, 10), (999, 100), (9999, 0))
    >>> fifty, three, four = (50, 30, 20), (60, 45, 55), (63, 37, 52, 48)
    >>> [numbers_error(value) for value in (fifty, (), (0,) * 40, (0,) * 41, [50], (50, True), (10 ** 60, -(10 ** 60) - 1))]
    [None, None, None, 'form', 'form', ('number', 1), ('number', 1)]
    >>> bag_of(fifty), bag_of((5, -5, 0, 5)), bag_of(())
    ((((0, 20), 1), ((0, 30), 1), ((0, 50), 1)), (((-5, 0), 1), ((0, 5), 2)), ())
    >>> bag_of(tuple(range(1, 14)))
    raises Unfit()
"""

EXAMPLES_D3 = """
    >>> [exact_numbers(tens, numbers) for numbers in (fifty, three, four, (95, 5, -5), (95, 5, 5), (9900, -100), (9900, 100), ())]
    [True, False, False, True, False, True, False, True]
"""


def small_numbers():
    """Few numbers, of one sign and of both, with noughts and equal ones, often with a common multiple."""
    source = random.Random(61)
    rows = [(), (0,), (0, 0), (5,), (-5,), (5, -5), (0, 7, 0), (3, 3, 3), (-4, -4), (60, 45, 55), (63, 37, 52, 48)]
    for many, unit in itertools.product((1, 2, 3, 4, 5, 6, 7), (1, 1, 2, 3, 5)):
        for low, high in ((-6, 6), (0, 8), (-8, 0)):
            rows.append(tuple(source.randrange(low, high + 1) * unit for _ in range(many)))
            rows.append(tuple(source.choice((low, 1, high)) * unit for _ in range(many)) + (source.choice((0, 1, -1)),))
    return rows


class ExamplesTest(ExampleCase):
    def test_examples(self):
        self.assertEqual(self.run_examples(EXAMPLES_D2 + EXAMPLES_D3, {}), 7)


class NumbersErrorTest(CallCase):
    def test_numbers(self):
        for many in range(41):
            self.assertCall(None, numbers_error, value=tuple(range(-3, many - 3)))
            self.assertCall(None, numbers_error, value=(GREAT, -GREAT)[:many] * (many // 2))
        for numbers in small_numbers():
            self.assertCall(None, numbers_error, value=numbers)

    def test_form(self):
        for value in ((0,) * 41, tuple(range(41)), (None,) * 41, [], [50], list(range(40)), {}, {0: 1}, None, "", "50", 0, True):
            self.assertCall("form", numbers_error, value=value)

    def test_number(self):
        for number in (
            GREAT + 1, -GREAT - 1, 10 ** 399, -10 ** 399, True, False, None, "5", "", (), (5,), [5], [], {}, {5: 5}, b"5",
        ):
            for place in (0, 1, 20, 39):
                numbers = (7,) * place + (number,)
                self.assertCall(("number", place), numbers_error, value=numbers)
                self.assertCall(("number", place), numbers_error, value=numbers + (None,) * (39 - place))
        self.assertCall("form", numbers_error, value=(None,) + (7,) * 40)

    def test_any_value(self):
        for value in any_values():
            if not isinstance(value, tuple) or len(value) > 40:
                expected = "form"
            else:
                wrong = [place for place, item in enumerate(value) if type(item) is not int]
                expected = ("number", wrong[0]) if wrong else None
            self.assertCall(expected, numbers_error, value=value)
            if type(value) is not int or abs(value) > GREAT:
                self.assertCall(("number", 2), numbers_error, value=(1, 2, value, True))


class BagOfTest(CallCase):
    def plain_bag(self, numbers):
        kinds = []
        for number in sorted(numbers):
            if number != 0 and (not kinds or number not in kinds[-1][0]):
                item = (0, number) if number > 0 else (number, 0)
                kinds.append((item, len([other for other in numbers if other == number])))
        return tuple(kinds)

    def test_against_counts(self):
        for numbers in small_numbers():
            bag = self.plain_bag(numbers)
            self.assertCall(bag, bag_of, numbers=numbers)
            self.assertIsNone(bag_error(bag))

    def test_told(self):
        self.assertCall((), bag_of, numbers=())
        self.assertCall((), bag_of, numbers=(0,) * 40)
        self.assertCall((((0, 1), 40),), bag_of, numbers=(1,) * 40)
        self.assertCall((((-GREAT, 0), 1), ((-2, 0), 1), ((0, GREAT), 2)), bag_of, numbers=(GREAT, -2, 0, -GREAT, GREAT))
        self.assertCall((((-3, 0), 2), ((-2, 0), 1), ((0, 1), 3)), bag_of, numbers=(1, -3, 1, -2, -3, 1))

    def test_twelve_and_thirteen(self):
        for low in (-20, -12, -6, 1, 50):
            twelve = tuple(number for number in range(low, low + 14) if number != 0)[:12]
            for numbers in (twelve, twelve[::-1], twelve + (0,) * 28, twelve + twelve, twelve * 3 + (0,)):
                self.assertCall(self.plain_bag(numbers), bag_of, numbers=numbers)
                self.assertEqual(len(bag_of(numbers)), 12)
                self.assertFails(Unfit(), bag_of, numbers=numbers + (99,))
                self.assertFails(Unfit(), bag_of, numbers=(-99,) + numbers)
        self.assertFails(Unfit(), bag_of, numbers=tuple(range(40)))


class ExactNumbersTest(CallCase):
    def test_against_all_sums(self):
        told_both = set()
        for numbers in small_numbers():
            sums = {0}
            for number in numbers:
                sums |= {total + number for total in sums}
            for scale in near_scales(sums):
                expected = plainly_exact_numbers(scale, numbers)
                told_both.add(expected)
                self.assertIs(exact_numbers(scale, numbers), expected)
                self.assertIs(exact(scale, bag_of(numbers)), expected)
        self.assertEqual(told_both, {True, False})

    def test_small_scales(self):
        source = random.Random(67)
        scales = small_scales()
        for numbers in small_numbers():
            for scale in source.sample(scales, 25):
                self.assertIs(exact_numbers(scale, numbers), plainly_exact_numbers(scale, numbers))

    def test_forty_and_more_unlike_than_kinds(self):
        source = random.Random(71)
        for unit, low, high in ((1, -5, 5), (2, -20, 20), (3, 1, 60), (4, -60, -1), (7, -30, 31)):
            for many in (13, 20, 39, 40):
                numbers = tuple(unit * source.randrange(low, high + 1) for _ in range(many - 1)) + (source.choice((0, 1)),)
                sums = {0}
                for number in numbers:
                    sums |= {total + number for total in sums}
                for scale in near_scales(sums)[::2]:
                    expected = plainly_exact_numbers(scale, numbers)
                    self.assertIs(exact_numbers(scale, numbers), expected)

    def test_calls(self):
        self.assertCall(True, exact_numbers, scale=TENS, numbers=(50, 30, 20))
        self.assertCall(False, exact_numbers, scale=TENS, numbers=(60, 45, 55))
        self.assertCall(True, exact_numbers, scale=TENS, numbers=())
        self.assertCall(True, exact_numbers, scale=((0, 0),), numbers=())
        self.assertCall(True, exact_numbers, scale=((0, 0),), numbers=(0,) * 40)
        self.assertCall(False, exact_numbers, scale=((0, 0),), numbers=(0,) * 39 + (1,))
        self.assertCall(False, exact_numbers, scale=((0, 0),), numbers=(1, -1))
        self.assertCall(True, exact_numbers, scale=((GREAT, 0),), numbers=(GREAT // 40,) * 40)
        self.assertCall(False, exact_numbers, scale=((GREAT, 0),), numbers=(GREAT, 1))
        self.assertCall(True, exact_numbers, scale=((GREAT, 2),), numbers=(GREAT,) * 40)

    def test_great(self):
        step = 10 ** 20
        numbers = tuple(step * (10 ** 38 + k) for k in range(39))
        self.assertCall(True, exact_numbers, scale=((0, step),), numbers=numbers)
        for off in (1, -1, step // 2, -step // 2):
            # The greatest sum that the step does not divide.
            apart = sum(numbers) + off
            for row in (numbers + (off,), (off,) + numbers[::-1], tuple(-number for number in numbers + (off,))):
                self.assertCall(True, exact_numbers, scale=((apart, step),), numbers=row)
                self.assertCall(False, exact_numbers, scale=((apart - 1, step),), numbers=row)
                self.assertCall(True, exact_numbers, scale=((apart + 1, step), (GREAT, 2)), numbers=row)


class WhatHoldsTest(unittest.TestCase):
    def test_order_noughts_and_signs(self):
        source = random.Random(73)
        forty = [tuple(source.randrange(-9, 30) * 10 for _ in range(40)) for _ in range(10)]
        for numbers in small_numbers() + forty:
            sums = {0, sum(number for number in numbers if number > 0), sum(number for number in numbers if number < 0)}
            for scale in source.sample(near_scales(sums), 8) + great_scales()[::6]:
                expected = exact_numbers(scale, numbers)
                without = tuple(number for number in numbers if number != 0)
                for other in (
                    numbers[::-1], tuple(source.sample(numbers, len(numbers))), without, (0,) + without, without + (0, 0),
                    tuple(-number for number in numbers),
                ):
                    self.assertIs(exact_numbers(scale, other), expected)

    def test_some_of_exact_numbers(self):
        source = random.Random(79)
        seen = 0
        for numbers in small_numbers():
            sums = {0, sum(number for number in numbers if number > 0), sum(number for number in numbers if number < 0)}
            for scale in source.sample(near_scales(sums), 10):
                if exact_numbers(scale, numbers):
                    for place in range(len(numbers)):
                        self.assertIs(exact_numbers(scale, numbers[:place] + numbers[place + 1:]), True)
                        seen += 1
        self.assertGreater(seen, 500)


if __name__ == "__main__":
    unittest.main()
