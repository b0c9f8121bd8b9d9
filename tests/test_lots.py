import itertools
import random
import unittest

from everyexact.addends import exact_numbers
from everyexact.errors import TooMany, Unfit
from everyexact.lots import few, fewest_lots, greatest_lots
from everyexact.scales import fits
from tests.calling import CallCase, ExampleCase
from tests.samples import GREAT, TENS, few_numbers, lots_of, near_scales, plainly_exact_numbers, small_scales

EXAMPLES_G2 = """
    >>> from everyexact.lots import few, fewest_lots, greatest_lots
    >>> tens, fours = ((99, 10), (999, 100), (9999, 0)), (50, 50, 5, 5)
    >>> greatest_lots(tens, fours), few(tens, fours), greatest_lots(tens, (95, -95, 10)), few(tens, (95, -95, 10))
    (((0, 1), (0, 2, 3), (1, 2, 3)), 2, ((0, 1), (1, 2)), 2)
    >>> sorted(fewest_lots(tens, fours)) in ([(0, 1), (2, 3)], [(0,), (1, 2, 3)], [(0, 2, 3), (1,)], [(0, 2), (1, 3)], [(0, 3), (1, 2)])
    True
    >>> few(tens, (95, 95, 95)), few(tens, (20, 30, 40, 10)), few(tens, ()), fewest_lots(tens, ()), greatest_lots(tens, ())
    (2, 1, 0, (), ((),))
    >>> greatest_lots(tens, (105, 5)), greatest_lots(tens, (105,)), greatest_lots((), (1, 2, 3))
    (((1,),), ((),), ((0, 1, 2),))
    >>> fewest_lots(tens, (105, 5))
    raises Unfit()
    >>> few(tens, (1,) * 9)
    raises TooMany(8)
"""


def of_lot(numbers, lot):
    return tuple(numbers[place] for place in lot)


def exact_lots(scale, numbers):
    return [lot for lot in lots_of(len(numbers)) if plainly_exact_numbers(scale, of_lot(numbers, lot))]


def ways_to_part(places):
    """All ways to part places into lots of one place or more."""
    if not places:
        return [[]]
    found = []
    first, rest = places[0], places[1:]
    for many in range(len(rest) + 1):
        for more in itertools.combinations(rest, many):
            left = tuple(place for place in rest if place not in more)
            found += [[(first,) + more] + way for way in ways_to_part(left)]
    return found


def scales_for(numbers, source):
    sums = {sum(of_lot(numbers, lot)) for lot in lots_of(len(numbers))}
    return source.sample(near_scales(sums), 6) + source.sample(small_scales(), 2) + [TENS]


class ExamplesTest(ExampleCase):
    def test_examples(self):
        self.assertEqual(self.run_examples(EXAMPLES_G2, {}), 8)


class LotsTest(CallCase):
    def check(self, scale, numbers):
        """Whether there are fewest lots; all is as all lots, and all ways to part the places, tell it."""
        lots = exact_lots(scale, numbers)
        greatest = [lot for lot in lots if not any(set(lot) < set(other) for other in lots)]
        self.assertEqual(greatest_lots(scale, numbers), tuple(sorted(greatest)))
        ways = [len(way) for way in ways_to_part(tuple(range(len(numbers)))) if all(lot in lots for lot in way)]
        if ways:
            self.assertEqual(few(scale, numbers), min(ways))
            self.check_fewest(scale, numbers, min(ways))
        else:
            for function in (few, fewest_lots):
                with self.assertRaises(Unfit):
                    function(scale, numbers)
        return bool(ways)

    def check_fewest(self, scale, numbers, many):
        found = fewest_lots(scale, numbers)
        self.assertEqual(fewest_lots(scale, numbers), found)
        self.assertIs(type(found), tuple)
        self.assertEqual(len(found), many)
        self.assertEqual(sorted(place for lot in found for place in lot), list(range(len(numbers))))
        for lot in found:
            self.assertIs(type(lot), tuple)
            self.assertEqual(lot, tuple(sorted(lot)))
            self.assertIs(exact_numbers(scale, of_lot(numbers, lot)), True)

    def test_against_all_lots_and_ways(self):
        source = random.Random(139)
        told_both = set()
        for numbers in few_numbers(5):
            for scale in scales_for(numbers, source):
                told_both.add(self.check(scale, numbers))
        self.assertEqual(told_both, {True, False})

    def test_six_to_eight(self):
        for numbers in (
            (50, 50, 5, 5, 95, -95), (95, 95, 95, 10, -10, 4), (60, 45, 55, 40, 63, 37, 1), (9, 9, 9, 9, 9, 9, 9),
            (63, 37, 52, 48, 10, 90, 9, 1), (1, -2, 3, -4, 5, -6, 7, -8), (0, 0, 0, 0, 0, 0, 0, 99), (7, 7, 7, 7, 7, 7, 7, 7),
        ):
            for scale in (TENS, ((12, 0),), ((95, 5), (150, 0)), ()):
                self.check(scale, numbers)

    def test_one_number(self):
        for number, expected in ((99, True), (-99, True), (105, False), (0, True), (110, True), (GREAT, False)):
            self.assertIs(self.check(TENS, (number,)), expected)
            if expected:
                self.assertCall(((0,),), greatest_lots, scale=TENS, numbers=(number,))
                self.assertCall(((0,),), fewest_lots, scale=TENS, numbers=(number,))
                self.assertCall(1, few, scale=TENS, numbers=(number,))
            else:
                self.assertCall(((),), greatest_lots, scale=TENS, numbers=(number,))
                self.assertFails(Unfit(), fewest_lots, scale=TENS, numbers=(number,))
                self.assertFails(Unfit(), few, scale=TENS, numbers=(number,))

    def test_none(self):
        for scale in ((), TENS, ((0, 0),)):
            self.assertCall(((),), greatest_lots, scale=scale, numbers=())
            self.assertCall((), fewest_lots, scale=scale, numbers=())
            self.assertCall(0, few, scale=scale, numbers=())

    def test_calls(self):
        self.assertCall(((0, 1), (0, 2, 3), (1, 2, 3)), greatest_lots, scale=TENS, numbers=(50, 50, 5, 5))
        self.assertCall(2, few, scale=TENS, numbers=(50, 50, 5, 5))
        self.assertEqual(len(self.called(fewest_lots, scale=TENS, numbers=(50, 50, 5, 5))), 2)
        self.assertCall(((0, 1, 2, 3),), fewest_lots, scale=TENS, numbers=(20, 30, 40, 10))

    def test_eight(self):
        eight = tuple(range(8))
        self.assertCall((eight,), greatest_lots, scale=(), numbers=(GREAT,) * 8)
        self.assertCall((eight,), fewest_lots, scale=(), numbers=(GREAT,) * 8)
        # All lots of so many equal numbers, and of no more.
        for most in range(1, 9):
            scale = ((7 * most, 0),)
            expected = tuple(itertools.combinations(eight, most))
            self.assertCall(expected, greatest_lots, scale=scale, numbers=(7,) * 8)
            self.assertCall(-(-8 // most), few, scale=scale, numbers=(7,) * 8)
            self.assertEqual(len(self.called(fewest_lots, scale=scale, numbers=(7,) * 8)), -(-8 // most))

    def test_too_many(self):
        for numbers in ((1,) * 9, (0,) * 9, (105,) * 9, tuple(range(40)), (GREAT,) * 40):
            for scale in ((), TENS, ((0, 0),)):
                for function in (greatest_lots, fewest_lots, few):
                    self.assertFails(TooMany(8), function, scale=scale, numbers=numbers)

    def test_unfit_where_a_number_does_not_fit_alone(self):
        for place in range(8):
            numbers = (5,) * place + (105,) + (5,) * (7 - place)
            self.assertFails(Unfit(), fewest_lots, scale=TENS, numbers=numbers)
            self.assertFails(Unfit(), few, scale=TENS, numbers=numbers)
            others = tuple(other for other in range(8) if other != place)
            self.assertCall((others,), greatest_lots, scale=TENS, numbers=numbers)


class WhatHoldsTest(unittest.TestCase):
    def cases(self):
        source = random.Random(149)
        for numbers in few_numbers(5):
            for scale in scales_for(numbers, source)[::2]:
                yield scale, numbers

    def test_exact_within_the_greatest(self):
        for scale, numbers in self.cases():
            greatest = greatest_lots(scale, numbers)
            for lot in lots_of(len(numbers)):
                held = any(set(lot) <= set(other) for other in greatest)
                self.assertIs(exact_numbers(scale, of_lot(numbers, lot)), held)

    def test_few(self):
        for scale, numbers in self.cases():
            if all(fits(scale, number) for number in numbers):
                many = few(scale, numbers)
                self.assertLessEqual(many, len(numbers))
                self.assertEqual(many == 1, numbers != () and exact_numbers(scale, numbers))
                for place in range(len(numbers)):
                    self.assertLessEqual(few(scale, numbers[:place] + numbers[place + 1:]), many)
                for place in range(len(scale)):
                    self.assertLessEqual(few(scale[:place] + scale[place + 1:], numbers), many)


if __name__ == "__main__":
    unittest.main()
