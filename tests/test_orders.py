import itertools
import math
import random
import unittest

from everyexact.addends import exact_numbers
from everyexact.errors import TooMany, Unfit
from everyexact.orders import clean_order, clean_tree, longest_start, order_many
from everyexact.trees import is_clean, tree_error, unclean
from tests.calling import CallCase, ExampleCase
from tests.samples import (
    GREAT, TENS, all_trees, few_numbers, great_scales, lots_of, near_scales, plainly_exact_numbers, plainly_fits,
)

EXAMPLES_E2 = """
    >>> from everyexact.orders import clean_order, clean_tree, longest_start, order_many
    >>> from everyexact.trees import is_clean
    >>> tens = ((99, 10), (999, 100), (9999, 0))
    >>> fifty, three, four = (50, 30, 20), (60, 45, 55), (63, 37, 52, 48)
    >>> clean_order(tens, three) in ((1, 2, 0), (2, 1, 0)), order_many(tens, three), order_many(tens, fifty), order_many(tens, (0, 0, 0))
    (True, 2, 6, 6)
    >>> clean_order(tens, four), order_many(tens, four), is_clean(tens, four, clean_tree(tens, four))
    (None, 0, True)
    >>> clean_order(tens, (60, 45)), clean_tree(tens, (60, 45)), order_many(tens, (105, -5)), clean_tree(tens, (105,)), clean_order(tens, ()), order_many(tens, ())
    (None, None, 0, None, (), 1)
    >>> clean_order(tens, (1,) * 9)
    raises TooMany(8)
    >>> clean_tree(tens, ())
    raises Unfit()
"""

EXAMPLES_E3 = """
    >>> [longest_start(tens, numbers) for numbers in (three, fifty + (7,), (105, 5), (), (95, 5, -5, -95), (0,) * 40)]
    [1, 3, 0, 0, 4, 40]
"""

THREE, FOUR = (60, 45, 55), (63, 37, 52, 48)


def order_sums(numbers, order):
    """As [E1] tells it: all numbers alone, and the sums of the beginnings of two places and more."""
    sums = list(numbers)
    for many in range(2, len(order) + 1):
        sums.append(sum(numbers[place] for place in order[:many]))
    return sums


def clean_orders(scale, numbers):
    orders = itertools.permutations(range(len(numbers)))
    return [order for order in orders if all(plainly_fits(scale, total) for total in order_sums(numbers, order))]


def has_clean_tree(scale, numbers):
    return any(is_clean(scale, numbers, tree) for tree in all_trees(tuple(range(len(numbers)))))


def scales_for(numbers):
    """Scales by which some sums of numbers fit, and some do not."""
    sums = {sum(numbers[place] for place in lot) for lot in lots_of(len(numbers))}
    bounds = sorted({abs(total) for total in sums})
    more = [((bound, 5),) for bound in bounds] + [((bound, 4), (2 * bound, 0)) for bound in bounds]
    return near_scales(sums)[::2] + more[::1 + len(more) // 12]


class ExamplesTest(ExampleCase):
    def test_examples(self):
        self.assertEqual(self.run_examples(EXAMPLES_E2 + EXAMPLES_E3, {}), 10)


class OrdersTest(CallCase):
    def check(self, scale, numbers, orders):
        self.assertEqual(order_many(scale, numbers), len(orders))
        order = clean_order(scale, numbers)
        self.assertEqual(clean_order(scale, numbers), order)
        if orders:
            self.assertIn(order, orders)
            self.assertIs(type(order), tuple)
        else:
            self.assertIsNone(order)

    def test_against_all_orders(self):
        seen = set()
        for numbers in few_numbers(5):
            for scale in scales_for(numbers):
                orders = clean_orders(scale, numbers)
                self.check(scale, numbers, orders)
                seen.add((len(orders) > 0, len(orders) < math.factorial(len(numbers))))
        self.assertEqual(seen, {(True, False), (True, True), (False, True)})

    def test_six_and_seven(self):
        for numbers in ((60, 45, 55, 40, 63, 37), (1, 2, 3, 4, 5, 6), (5, -5, 5, -5, 0, 1), (95, 5, -50, 60, -10, 105, 1)):
            for scale in (TENS, ((12, 3), (30, 0)), ((5, 0),), ((7, 5),)):
                self.check(scale, numbers, clean_orders(scale, numbers))

    def test_calls(self):
        self.assertCall((), clean_order, scale=((0, 0),), numbers=())
        self.assertCall(1, order_many, scale=((0, 0),), numbers=())
        self.assertCall((0,), clean_order, scale=TENS, numbers=(110,))
        self.assertCall(1, order_many, scale=TENS, numbers=(110,))
        self.assertCall(None, clean_order, scale=TENS, numbers=(105,))
        self.assertCall(0, order_many, scale=TENS, numbers=(105,))
        self.assertCall(None, clean_order, scale=TENS, numbers=FOUR)
        self.assertCall(2, order_many, scale=TENS, numbers=THREE)
        self.assertIn(self.called(clean_order, scale=TENS, numbers=THREE), ((1, 2, 0), (2, 1, 0)))
        # A number alone, or the sum of all, does not fit.
        self.assertCall(None, clean_order, scale=TENS, numbers=(105, -5, -100))
        self.assertCall(0, order_many, scale=TENS, numbers=(105, -5))
        self.assertCall(None, clean_order, scale=TENS, numbers=(5, 96))
        self.assertCall(0, order_many, scale=TENS, numbers=(60, 40, 1))

    def test_eight(self):
        self.assertCall(math.factorial(8), order_many, scale=(), numbers=(1, -2, 3, 0, 0, 7, 7, GREAT))
        self.assertCall(0, order_many, scale=((GREAT - 1, 0),), numbers=(1, -2, 3, 0, 0, 7, 7, GREAT))
        stairs = (3, -3, 3, -3, 3, -3, 3, -3)
        # Each order is a walk of eight steps that stays within 3 of 0: up and down, or down and up, four times.
        self.assertCall(2 ** 4 * math.factorial(4) ** 2, order_many, scale=((3, 0),), numbers=stairs)
        order = self.called(clean_order, scale=((3, 0),), numbers=stairs)
        self.assertEqual(sorted(order), list(range(8)))
        self.assertTrue(all(abs(total) <= 3 for total in order_sums(stairs, order)))
        numbers = (63, 37, 52, 48, 10, 90, 9, 1)
        order = clean_order(((199, 10), (999, 0)), numbers)
        self.assertTrue(all(plainly_fits(((199, 10), (999, 0)), total) for total in order_sums(numbers, order)))

    def test_many_orders_with_equal_numbers(self):
        for many in range(9):
            self.assertCall(math.factorial(many), order_many, scale=((many, 0),), numbers=(1,) * many)
            self.assertCall(math.factorial(many), order_many, scale=((0, 0),), numbers=(0,) * many)
            if many:
                self.assertCall(0, order_many, scale=((many - 1, 0),), numbers=(1,) * many)

    def test_too_many(self):
        for numbers in ((1,) * 9, (0,) * 9, (105,) * 9, tuple(range(40)), (GREAT,) * 40):
            for scale in ((), TENS, ((0, 0),)):
                for function in (clean_order, order_many, clean_tree):
                    self.assertFails(TooMany(8), function, scale=scale, numbers=numbers)


class CleanTreeTest(CallCase):
    def check(self, scale, numbers, expected):
        tree = clean_tree(scale, numbers)
        self.assertEqual(repr(clean_tree(scale, numbers)), repr(tree))
        if expected:
            self.assertIsNone(tree_error(len(numbers), tree))
            self.assertIs(is_clean(scale, numbers, tree), True)
        else:
            self.assertIsNone(tree)

    def test_against_all_trees(self):
        told_both = set()
        for numbers in few_numbers(4):
            if numbers:
                for scale in scales_for(numbers):
                    expected = has_clean_tree(scale, numbers)
                    told_both.add(expected)
                    self.check(scale, numbers, expected)
        self.assertEqual(told_both, {True, False})

    def test_five(self):
        for numbers in ((63, 37, 52, 48, 0), (63, 37, 52, 48, 5), (60, 45, 55, -5, 105), (1, 2, 3, 4, 5), (9, -9, 9, -9, 4)):
            for scale in (TENS, ((10, 5),), ((9, 0),), ((9, 2), (20, 0)), ()):
                self.check(scale, numbers, has_clean_tree(scale, numbers))

    def test_calls(self):
        self.assertCall(0, clean_tree, scale=TENS, numbers=(110,))
        self.assertCall(None, clean_tree, scale=TENS, numbers=(105,))
        self.assertCall(None, clean_tree, scale=TENS, numbers=(60, 45))
        self.assertCall(None, clean_tree, scale=TENS, numbers=(105, -5))
        tree = self.called(clean_tree, scale=TENS, numbers=FOUR)
        self.assertIs(is_clean(TENS, FOUR, tree), True)
        for scale in ((), TENS, ((0, 0),)):
            self.assertFails(Unfit(), clean_tree, scale=scale, numbers=())

    def test_eight(self):
        # Four hundreds, each of two: only by these pairs.
        numbers = (63, 52, 41, 89, 48, 37, 11, 59)
        tree = self.called(clean_tree, scale=TENS, numbers=numbers)
        self.assertIsNone(tree_error(8, tree))
        self.assertIs(is_clean(TENS, numbers, tree), True)
        self.assertCall(None, clean_tree, scale=TENS, numbers=numbers[:7] + (58,))
        self.assertCall(None, clean_tree, scale=((0, 0),), numbers=(1, -1) * 4)
        self.check((), (GREAT,) * 8, True)

    def test_exact_and_orders_make_clean_trees(self):
        for numbers in few_numbers(4):
            for scale in scales_for(numbers):
                if numbers and order_many(scale, numbers) > 0:
                    self.check(scale, numbers, True)
                if exact_numbers(scale, numbers):
                    self.assertEqual(order_many(scale, numbers), math.factorial(len(numbers)))
                    self.assertTrue(numbers == () or unclean(scale, numbers) is None)


class WhatHoldsTest(unittest.TestCase):
    def test_exact_exactly_if_all_orders_are_clean(self):
        for numbers in few_numbers(5):
            for scale in scales_for(numbers)[::2]:
                clean = order_many(scale, numbers) == math.factorial(len(numbers))
                self.assertIs(clean, plainly_exact_numbers(scale, numbers))

    def test_places_noughts_and_signs(self):
        source = random.Random(101)
        for numbers in few_numbers(5):
            for scale in scales_for(numbers)[::3]:
                many = order_many(scale, numbers)
                tree = numbers == () or clean_tree(scale, numbers) is not None
                for other in (
                    numbers[::-1], tuple(source.sample(numbers, len(numbers))), tuple(-number for number in numbers),
                ):
                    self.assertEqual(order_many(scale, other), many)
                    self.assertEqual(numbers == () or clean_tree(scale, other) is not None, tree)
                # A nought may stand at any place of each order.
                self.assertEqual(order_many(scale, numbers + (0,)), many * (len(numbers) + 1))
                self.assertEqual(clean_tree(scale, (0,) + numbers) is not None, tree)


class LongestStartTest(CallCase):
    def test_against_each_beginning(self):
        seen = set()
        for numbers in few_numbers(5) + [(60, 45, 55, 40, 63, 37, 1, 2, 3), (5, 10, 15, 80, 0, 0, 3)]:
            for scale in scales_for(numbers[:5]) + [TENS]:
                whole = [many for many in range(len(numbers) + 1) if exact_numbers(scale, numbers[:many])]
                self.assertEqual(whole, list(range(len(whole))))
                self.assertEqual(longest_start(scale, numbers), whole[-1])
                seen.add((whole[-1] > 0, whole[-1] == len(numbers)))
        self.assertEqual(seen, {(False, False), (True, False), (True, True), (False, True)})

    def test_calls(self):
        for scale, numbers, expected in (
            (TENS, (), 0), (TENS, (105, 5), 0), (TENS, THREE, 1), (TENS, (50, 30, 20, 7), 3), (TENS, (50, 30, 20), 3),
            (((0, 0),), (0,) * 40, 40), (((0, 0),), (0,) * 39 + (1,), 39), (((0, 0),), (1,) + (0,) * 39, 0),
            (((40, 0),), (1,) * 40, 40), (((39, 0),), (1,) * 40, 39), (((20, 0),), (1, -1) * 20, 40),
            (((19, 0),), (1, -1) * 20, 38), (((GREAT, 0),), (GREAT, -GREAT, 0, 1), 3), ((), (GREAT,) * 40, 40),
        ):
            self.assertCall(expected, longest_start, scale=scale, numbers=numbers)

    def test_forty_great(self):
        source = random.Random(103)
        for scale in great_scales()[::3]:
            numbers = tuple(10 ** 18 * source.randrange(-10 ** 3, 10 ** 3) for _ in range(40))
            expected = max(many for many in range(41) if exact_numbers(scale, numbers[:many]))
            self.assertCall(expected, longest_start, scale=scale, numbers=numbers)


if __name__ == "__main__":
    unittest.main()
