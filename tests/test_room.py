import itertools
import random
import time
import unittest

from everyexact.bags import bag_error, ends
from everyexact.errors import Unfit
from everyexact.exactness import exact
from everyexact.room import copies, may_come, next_to_come, room
from everyexact.scales import fits, fitting_from, fitting_many, scale_error
from tests.calling import CallCase, ExampleCase
from tests.samples import (
    GREAT, MANY, TENS, all_sums, bags_to_five, great_bags, great_scales, near_scales, numbers_near, plainly_fits, small_scales,
    turned_bag,
)

EXAMPLES_F2 = """
    >>> from everyexact.room import copies, may_come, next_to_come, room
    >>> tens, thirty = ((99, 10), (999, 100), (9999, 0)), (((0, 30), 3),)
    >>> [may_come(tens, thirty, number) for number in (0, 9, 10, 11, 20, 910, 920, 1000)], [may_come(tens, thirty, number) for number in (-99, -100, -105, -1000, -1100)]
    ([True, True, True, False, True, True, False, False], [True, True, False, True, False])
    >>> [copies(tens, thirty, number) for number in (30, 10, 9, -30, 11, 910)], copies((), thirty, 5) == 10 ** 30, copies(((0, 30),), thirty, 60) == 10 ** 30
    ([30, 91, 1, 33, 0, 1], True, True)
    >>> may_come(tens, (((0, 51), 2),), 0)
    raises Unfit()
"""

EXAMPLES_F3 = """
    >>> next_to_come(tens, thirty, 11, 99), next_to_come(tens, thirty, 911, 10 ** 60), next_to_come(tens, thirty, -1050, 0), next_to_come(tens, thirty, 1, 9)
    (20, None, -1000, 1)
    >>> room(tens, thirty, 0, 30), room(tens, thirty, 1, 10 ** 60), room(tens, thirty, -10 ** 60, -1), room(tens, thirty, -9999, 9999), room(tens, thirty, 11, 19)
    (13, 100, 190, 291, 0)
    >>> room(((0, 2),), (((-4, 0, 6), 10 ** 30),), 1, 10 ** 40) == 5 * 10 ** 39, room(tens, (), 100, 200), room((), thirty, -10 ** 60, 10 ** 60) == 2 * 10 ** 60 + 1
    (True, 11, True)
    >>> trio = (((0, 5, 20), 2), ((-3, 0), 1))
    >>> room(tens, trio, -20, 70), next_to_come(tens, trio, 60, 9999), next_to_come(tens, trio, 61, 9999)
    (81, 60, None)
"""

THIRTY = (((0, 30), 3),)
TRIO = (((0, 5, 20), 2), ((-3, 0), 1))
ALL_FOUR = (
    (may_come, {"number": 0}), (copies, {"number": 1}), (next_to_come, {"low": 0, "high": 0}), (room, {"low": 0, "high": 0}),
)


def with_items(bag, number, many=1):
    """bag with so many items more, perhaps of more kinds than a bag has."""
    item = (0,) if number == 0 else (0, number) if number > 0 else (number, 0)
    return bag + ((item, many),) if many else bag


def plainly_coming(scale, sums, numbers):
    """As [F1] tells it: those with which all sums fit."""
    fit = {total for total in range(min(sums) + min(numbers), max(sums) + max(numbers) + 1) if plainly_fits(scale, total)}
    return [number for number in numbers if all(total + number in fit for total in sums)]


def small_cases():
    """Exact pairs of a scale and a bag, with the sums of the bag."""
    source = random.Random(109)
    scales = small_scales()
    for bag in bags_to_five():
        sums = sorted(all_sums(bag))
        picked = source.sample(near_scales(set(sums)), 12) + source.sample(scales, 12)
        for scale in picked + [((step, step), (end, 0)) for step in (2, 3) for end in (sums[-1], sums[-1] + 5)]:
            if all(plainly_fits(scale, total) for total in sums):
                yield scale, bag, sums


def great_cases():
    """Exact pairs of great scales and bags."""
    source = random.Random(113)
    step = 10 ** 18
    wide = tuple(k * step for k in range(-19, 21))
    bags = [
        (), ((wide, MANY),) * 12, ((wide, 10 ** 9),) * 6, (((0, step, 3 * step), 7), ((-step, 0), 2)), (((0,), MANY),),
        tuple(((-k * step, 0, step), k * 10 ** 12) for k in range(1, 13)), (((0, 10 ** 57), 20),), (((-10 ** 40, 0, 10 ** 41), 5),),
    ]
    stairs = tuple((10 ** (20 + k), 10 ** (k + 1)) for k in range(39)) + ((GREAT, 0),)
    forty = tuple((10 ** 21 * 3 ** k + source.randrange(10 ** 20), 2 ** min(18, k) * 5 ** min(18, k // 2)) for k in range(1, 41))
    scales = great_scales() + [(), stairs, forty, ((0, step),), ((0, 2), (GREAT, 0)), ((10 ** 50, 10 ** 17), (GREAT, 3))]
    for bag in great_bags():
        top = max(abs(total) for total in ends(bag))
        yield ((top, 0), (top, 7)) if top <= GREAT else (), bag
    for scale, bag in itertools.product(scales, bags):
        if exact(scale, bag):
            yield scale, bag


class ExamplesTest(ExampleCase):
    def test_examples(self):
        self.assertEqual(self.run_examples(EXAMPLES_F2 + EXAMPLES_F3, {}), 10)


class SmallTest(CallCase):
    def test_against_all_sums(self):
        cases = 0
        for scale, bag, sums in small_cases():
            numbers = range(-45, 46)
            found = plainly_coming(scale, sums, numbers)
            self.assertEqual([number for number in numbers if may_come(scale, bag, number)], found)
            self.check_stretches(scale, bag, found)
            cases += 1
        self.assertGreater(cases, 1500)

    def check_stretches(self, scale, bag, found):
        for low, high in ((-45, 45), (-45, -1), (1, 45), (0, 0), (-7, 3), (-3, 20), (5, 5), (-11, -11), (13, 31), (-40, -17)):
            held = [number for number in found if low <= number <= high]
            self.assertEqual(repr(room(scale, bag, low, high)), repr(len(held)))
            self.assertEqual(repr(next_to_come(scale, bag, low, high)), repr(min(held, default=None)))

    def test_each_number_and_each_stretch(self):
        for scale, bag in ((TENS, THIRTY), (TENS, TRIO), (((9, 2), (20, 4), (40, 0)), (((-4, 0, 2), 3),)), ((), TRIO)):
            sums = all_sums(bag)
            found = set(plainly_coming(scale, sums, range(-130, 131)))
            for number in range(-130, 131):
                self.assertIs(may_come(scale, bag, number), number in found)
                self.assertEqual(room(scale, bag, number, number), int(number in found))
                self.assertEqual(next_to_come(scale, bag, number, number), number if number in found else None)
            for low, high in itertools.combinations(range(-130, 131, 13), 2):
                held = [number for number in found if low <= number <= high]
                self.assertEqual(room(scale, bag, low, high), len(held))
                self.assertEqual(next_to_come(scale, bag, low, high), min(held, default=None))

    def test_copies_against_exact(self):
        seen = set()
        for scale, bag, _ in small_cases():
            for number in (-12, -6, -4, -3, -2, -1, 1, 2, 3, 4, 5, 6, 12):
                expected = 0
                while expected < 40 and exact(scale, with_items(bag, number, expected + 1)):
                    expected += 1
                many = copies(scale, bag, number)
                if expected < 40:
                    self.assertEqual(many, expected)
                else:
                    self.assertIs(exact(scale, with_items(bag, number, many)), True)
                    self.assertTrue(many == MANY or not exact(scale, with_items(bag, number, many + 1)))
                seen.add(min(many, 5))
        self.assertEqual(seen, {0, 1, 2, 3, 4, 5})

    def test_excluding_congruences(self):
        # 1 leads to -3, another odd number does not fit itself, an even one leads to one greater by 1.
        bag = (((-4, 0, 1), 1),)
        self.assertCall(None, next_to_come, scale=((1, 2),), bag=bag, low=1, high=GREAT)
        self.assertCall(0, room, scale=((1, 2),), bag=bag, low=1, high=GREAT)
        self.assertCall(None, next_to_come, scale=((1, 2),), bag=turned_bag(bag), low=-GREAT, high=-1)
        self.assertCall(0, room, scale=((1, 2),), bag=turned_bag(bag), low=-GREAT, high=-1)
        for step in (2, 3, 4, 6):
            for low, high in itertools.product(range(-7, 1), range(0, 8)):
                bag = ((tuple(sorted({low * step, 0, 1, high})), 1),)
                scale = ((max(1, high), step),)
                if exact(scale, bag):
                    found = plainly_coming(scale, all_sums(bag), range(-60, 61))
                    self.check_stretches(scale, bag, found)


class ToldTest(CallCase):
    def test_may_come(self):
        for number, expected in (
            (0, True), (1, True), (9, True), (10, True), (11, False), (15, False), (20, True), (900, True), (910, True),
            (911, False), (920, False), (GREAT, False), (-1, True), (-99, True), (-100, True), (-101, False), (-990, True),
            (-1000, True), (-1001, False), (-1010, False), (-1090, False), (-1100, False), (-GREAT, False),
        ):
            self.assertCall(expected, may_come, scale=TENS, bag=THIRTY, number=number)
        self.assertCall(True, may_come, scale=((0, 0),), bag=(), number=0)
        self.assertCall(False, may_come, scale=((0, 0),), bag=(), number=1)
        self.assertCall(True, may_come, scale=((0, 0),), bag=(((0,), MANY),) * 12, number=0)
        self.assertCall(True, may_come, scale=((GREAT, 0),), bag=(), number=-GREAT)

    def test_more_kinds_than_a_bag_has(self):
        bag = tuple(((0, 10 * k), k) for k in range(1, 13))
        self.assertEqual((len(bag), bag_error(with_items(bag, 10))), (12, "form"))
        top = ends(bag)[1]
        scale = ((99, 10), (top + 25, 0))
        for number, expected in ((0, True), (10, True), (20, True), (30, False), (1, False), (-20, True), (-99, False), (-100, True)):
            self.assertCall(expected, may_come, scale=scale, bag=bag, number=number)
        self.assertCall(2, copies, scale=scale, bag=bag, number=10)
        self.assertCall(1, copies, scale=scale, bag=bag, number=20)
        self.assertCall(0, copies, scale=scale, bag=bag, number=30)
        self.assertCall((top + 25) // 10, copies, scale=scale, bag=bag, number=-10)
        self.assertCall(0, copies, scale=scale, bag=bag, number=-99)
        self.assertCall(3, room, scale=scale, bag=bag, low=0, high=GREAT)
        self.assertCall(20, next_to_come, scale=scale, bag=bag, low=11, high=GREAT)

    def test_copies(self):
        for number, expected in (
            (30, 30), (10, 91), (9, 1), (11, 0), (910, 1), (911, 0), (455, 0), (450, 2), (460, 1), (-30, 33), (-33, 3), (-34, 2),
            (-1000, 1), (-990, 1), (-500, 2), (-1, 100), (1, 10), (GREAT, 0), (-GREAT, 0),
        ):
            self.assertCall(expected, copies, scale=TENS, bag=THIRTY, number=number)
        self.assertCall(MANY, copies, scale=(), bag=THIRTY, number=5)
        self.assertCall(MANY, copies, scale=(), bag=(), number=-GREAT)
        self.assertCall(MANY, copies, scale=((0, 30),), bag=THIRTY, number=60)
        self.assertCall(0, copies, scale=((0, 30),), bag=THIRTY, number=20)
        self.assertCall(0, copies, scale=((0, 0),), bag=(), number=1)

    def test_copies_at_their_bound(self):
        for number in (1, 7, 10 ** 30):
            top = number * MANY
            for bag in ((), (((0, 5), 3),), (((-4, 0), 2),)):
                spare = ends(bag)[1]
                if top + spare <= GREAT:
                    self.assertCall(MANY, copies, scale=((top + spare, 0),), bag=bag, number=number)
                self.assertCall(MANY - 1, copies, scale=((top + spare - 1, 0),), bag=bag, number=number)
                self.assertCall(MANY - 1, copies, scale=((top + spare - 1, 0),), bag=turned_bag(bag), number=-number)
        # One beyond the bound may be a multiple of the step, the next one is none.
        self.assertCall(4, copies, scale=((10, 12),), bag=(), number=3)
        self.assertCall(3, copies, scale=((10, 11),), bag=(), number=3)
        self.assertCall(MANY, copies, scale=((10, 3),), bag=(), number=3)

    def test_copies_of_items_that_are_there(self):
        for have in (1, 5, 29, 30, 32, 33):
            self.assertCall(33 - have, copies, scale=TENS, bag=(((0, 30), have),), number=30)
        self.assertFails(Unfit(), copies, scale=TENS, bag=(((0, 30), 34),), number=30)

    def test_stretches(self):
        self.assertCall(-1000, next_to_come, scale=TENS, bag=THIRTY, low=-GREAT, high=GREAT)
        self.assertCall(291, room, scale=TENS, bag=THIRTY, low=-GREAT, high=GREAT)
        self.assertCall(0, next_to_come, scale=TENS, bag=THIRTY, low=0, high=GREAT)
        self.assertCall(None, next_to_come, scale=TENS, bag=THIRTY, low=-GREAT, high=-1001)
        self.assertCall(910, next_to_come, scale=TENS, bag=THIRTY, low=901, high=910)
        self.assertCall(None, next_to_come, scale=TENS, bag=THIRTY, low=901, high=909)
        self.assertCall(None, next_to_come, scale=TENS, bag=THIRTY, low=-109, high=-101)
        self.assertCall(-110, next_to_come, scale=TENS, bag=THIRTY, low=-110, high=-101)
        self.assertCall(2 * GREAT + 1, room, scale=(), bag=(((-GREAT, 0, GREAT), MANY),) * 12, low=-GREAT, high=GREAT)
        self.assertCall(-GREAT, next_to_come, scale=(), bag=(((-GREAT, 0, GREAT), MANY),) * 12, low=-GREAT, high=GREAT)
        self.assertCall(1, room, scale=((0, 0),), bag=(), low=-GREAT, high=GREAT)
        self.assertCall(None, next_to_come, scale=((0, 0),), bag=(), low=1, high=GREAT)

    def test_without_items_what_fits_may_come(self):
        for scale in small_scales()[::9] + great_scales():
            for low, high in ((-GREAT, GREAT), (-GREAT, -1), (1, GREAT), (-30, 17), (5, 10 ** 30), (GREAT, GREAT), (-9, -9)):
                self.assertEqual(room(scale, (), low, high), fitting_many(scale, low, high))
                found = fitting_from(scale, low)
                self.assertEqual(next_to_come(scale, (), low, high), found if found is not None and found <= high else None)


class UnfitTest(CallCase):
    def test_bags_that_are_not_exact(self):
        for scale, bag in (
            (TENS, (((0, 51), 2),)), (((4, 0),), (((0, 5), 1),)), (((4, 0),), (((-5, 0), 1),)), (((0, 0),), (((-1, 0, 1), 1),)),
            (((0, 2),), (((-2, 0, 4), MANY),) * 11 + (((-2, 0, 3), MANY),)), (TENS, (((0, 50), 2), ((0, 5), 2))),
            (((GREAT, 0),), (((0, 10 ** 30 + 1), MANY),)),
        ):
            for function, named in ALL_FOUR:
                self.assertFails(Unfit(), function, scale=scale, bag=bag, **named)
            self.assertFails(Unfit(), may_come, scale=scale, bag=bag, number=7)
            self.assertFails(Unfit(), copies, scale=scale, bag=bag, number=-GREAT)
            self.assertFails(Unfit(), next_to_come, scale=scale, bag=bag, low=1, high=GREAT)
            self.assertFails(Unfit(), next_to_come, scale=scale, bag=bag, low=-9, high=-3)
            self.assertFails(Unfit(), room, scale=scale, bag=bag, low=-GREAT, high=GREAT)

    def test_just_the_bags_that_are_not_exact(self):
        source = random.Random(127)
        told_both = set()
        for bag in bags_to_five():
            for scale in source.sample(near_scales(all_sums(bag)), 5):
                expected = exact(scale, bag)
                told_both.add(expected)
                for function, named in ALL_FOUR:
                    if expected:
                        function(scale, bag, **named)
                    else:
                        with self.assertRaises(Unfit):
                            function(scale, bag, **named)
        self.assertEqual(told_both, {True, False})


class GreatTest(CallCase):
    def numbers(self, scale, bag):
        """Numbers at which something may change, and one off them."""
        least, greatest = ends(bag)
        found = {1, 2, GREAT, 10 ** 18, 10 ** 40}
        for number in numbers_near(scale):
            for total in (least, greatest):
                found.update((number - total, number + total))
        return sorted({number for number in found if 0 < number <= GREAT} | {-number for number in found if 0 < number <= GREAT})

    def test_at_edges(self):
        source = random.Random(131)
        cases = list(great_cases())
        self.assertGreater(len(cases), 80)
        for scale, bag in cases:
            numbers = self.numbers(scale, bag)
            for number in source.sample(numbers, min(10, len(numbers))):
                expected = exact(scale, with_items(bag, number))
                self.assertIs(may_come(scale, bag, number), expected)
                self.assertEqual(room(scale, bag, number, number), int(expected))
                self.assertEqual(next_to_come(scale, bag, number, number), number if expected else None)
                self.check_copies(scale, bag, number)

    def check_copies(self, scale, bag, number):
        many = copies(scale, bag, number)
        self.assertTrue(0 <= many <= MANY)
        self.assertIs(exact(scale, with_items(bag, number, many)), True)
        if many < MANY:
            self.assertIs(exact(scale, with_items(bag, number, many + 1)), False)

    def test_side_by_side(self):
        source = random.Random(137)
        for scale, bag in great_cases():
            whole = room(scale, bag, -GREAT, GREAT)
            cuts = [number for number in self.numbers(scale, bag) if number < GREAT] + [0, -1]
            for cut in source.sample(cuts, 3):
                self.assertEqual(room(scale, bag, -GREAT, cut) + room(scale, bag, cut + 1, GREAT), whole)
                found = next_to_come(scale, bag, cut + 1, GREAT)
                self.assertEqual(found is None, room(scale, bag, cut + 1, GREAT) == 0)
                if found is not None:
                    self.assertIs(exact(scale, with_items(bag, found)), True)
                    self.assertTrue(found == cut + 1 or room(scale, bag, cut + 1, found - 1) == 0)

    def test_against_small_ones_made_great(self):
        """With all values, bounds and steps so many times as great so are the multiples that may come."""
        unit = 10 ** 20
        for scale, bag, sums in list(small_cases())[::25]:
            tall = tuple((bound * unit, step * unit) for bound, step in scale) + ((0, unit),)
            items = tuple((tuple(value * unit for value in item), many) for item, many in bag)
            found = plainly_coming(scale, sums, range(-40, 41))
            self.assertIsNone(scale_error(tall))
            self.assertEqual(room(tall, items, -40 * unit, 40 * unit), len(found))
            self.assertEqual(next_to_come(tall, items, -40 * unit, 40 * unit), found[0] * unit)

    def test_turned_about(self):
        for scale, bag in list(great_cases())[::3] + [(scale, bag) for scale, bag, _ in list(small_cases())[::20]]:
            other = turned_bag(bag)
            for low, high in ((-GREAT, GREAT), (1, 10 ** 40), (-17, 29), (10 ** 30, GREAT)):
                self.assertEqual(room(scale, bag, low, high), room(scale, other, -high, -low))
            for number in (1, 5, 10 ** 20, 3 * 10 ** 18):
                self.assertIs(may_come(scale, bag, number), may_come(scale, other, -number))
                self.assertEqual(copies(scale, bag, -number), copies(scale, other, number))

    def test_at_once(self):
        step = 10 ** 18
        bag = tuple((tuple((k + off) * step for k in range(-19, 21)), MANY - off) for off in range(12))
        scale = tuple((10 ** (21 + k), step // 2 ** k) for k in range(18)) + tuple((10 ** (39 + k), step) for k in range(21)) + ((0, 2),)
        self.assertEqual((bag_error(bag), scale_error(scale), len(scale)), (None, None, 40))
        began = time.process_time()
        self.assertCall(2 * 10 ** 42 + 1, room, scale=scale, bag=bag, low=-GREAT, high=GREAT)
        self.assertCall(step, next_to_come, scale=scale, bag=bag, low=1, high=GREAT)
        self.assertCall(MANY, copies, scale=scale, bag=bag, number=step)
        self.assertCall(0, copies, scale=scale, bag=bag, number=step // 2)
        self.assertLess(time.process_time() - began, 20)


class WhatHoldsTest(unittest.TestCase):
    def test_copies_with_some_in_the_bag(self):
        for scale, bag, _ in list(small_cases())[::10]:
            for number in (-3, -2, 1, 4):
                many = copies(scale, bag, number)
                self.assertEqual(many == 0, not may_come(scale, bag, number))
                for come in {1, many // 2, many} - {0}:
                    if come <= many < MANY:
                        self.assertEqual(copies(scale, with_items(bag, number, come), number), many - come)

    def test_lesser_bags_and_scales(self):
        for scale, bag, _ in list(small_cases())[::10]:
            for number in (-6, -1, 2, 3, 8):
                if may_come(scale, bag, number):
                    for place in range(len(bag)):
                        self.assertIs(may_come(scale, bag[:place] + bag[place + 1:], number), True)
                    for place in range(len(scale)):
                        self.assertIs(may_come(scale[:place] + scale[place + 1:], bag, number), True)

    def test_not_both_at_a_time(self):
        self.assertIs(may_come(TENS, THIRTY, 9), True)
        self.assertIs(may_come(TENS, with_items(THIRTY, 9), 9), False)
        self.assertIs(fits(TENS, 108), False)


if __name__ == "__main__":
    unittest.main()
