import itertools
import math
import random
import time
import unittest
from fractions import Fraction

from everyexact.errors import Unfit
from everyexact.floats import float_scale
from everyexact.products import bad_lot, keepable, products_exact, shares
from everyexact.scales import fits
from tests.calling import CallCase, ExampleCase
from tests.samples import GREAT, lots_of

EXAMPLES_J2 = """
    >>> from everyexact.products import bad_lot, keepable, products_exact, shares
    >>> [keepable(10, 2, number) for number in (0, 99, 100, 101, 1200, -1200, 1230, 10 ** 90)], keepable(12, 1, 132), keepable(12, 1, 133)
    ([True, True, True, False, True, True, False, True], True, False)
"""

EXAMPLES_J3 = """
    >>> products_exact(10, 2, (4, 25, 3)), shares(10, (4, 25, 3)), bad_lot(10, 2, (4, 25, 3))
    (True, ((2, 75, 1), (5, 12, 1)), None)
    >>> products_exact(10, 2, (4, 25, 7)), shares(10, (4, 25, 7)), bad_lot(10, 2, (4, 25, 7))
    (False, ((2, 175, 1), (5, 28, 1)), (1, 2))
    >>> shares(10, (15,)), shares(6, (4, -9)), shares(30, ()), products_exact(10, 1, ())
    (((2, 15, 1), (5, 3, 2)), ((2, 9, 1), (3, 4, 1)), ((2, 1, 1), (3, 1, 1), (5, 1, 1)), True)
    >>> shares(2, (12, 5, -7)), products_exact(2, 7, (12, 5, -7)), products_exact(2, 6, (12, 5, -7)), products_exact(10, 3, (40, 40, 40, 40))
    (((2, 105, 1),), True, False, True)
    >>> products_exact(12, 9, (1, 2))
    raises Unfit()
"""

# Bases of one prime to four, and the primes.
PRIMES = {
    2: (2,), 3: (3,), 7: (7,), 997: (997,), 6: (2, 3), 10: (2, 5), 15: (3, 5), 998: (2, 499), 30: (2, 3, 5), 42: (2, 3, 7),
    105: (3, 5, 7), 986: (2, 17, 29), 210: (2, 3, 5, 7), 330: (2, 3, 5, 11), 966: (2, 3, 7, 23), 870: (2, 3, 5, 29), 858: (2, 3, 11, 13),
}


def is_square_free(base):
    return all(base % (root * root) != 0 for root in range(2, base))


def plainly_keepable(base, figures, number):
    """By the powers of base, the greatest that can be asked for first."""
    step = 1
    while True:
        if number % step == 0 and abs(number // step) < base ** figures:
            return True
        if step > abs(number):
            return False
        step *= base


def plain_share(base, prime, numbers):
    """The share as a fraction, weight by weight."""
    share = Fraction(1)
    for number in numbers:
        times = 0
        while number % prime ** (times + 1) == 0:
            times += 1
        share *= max(Fraction(1), Fraction(abs(number), base ** times))
    return share


def few_factors():
    """Rows of one to six numbers, of both signs, with common divisors and without."""
    source = random.Random(211)
    rows = [(1,), (-1,), (1, -1), (4, 25, 3), (4, 25, 7), (15,), (4, -9), (40,) * 4, (12, 5, -7), (2,) * 6, (-10, 100), (7, 7, 7)]
    for many in (1, 2, 3, 4, 5, 6) * 8:
        rows.append(tuple(source.choice((1, -1)) * source.choice((source.randrange(1, 40), 2 ** source.randrange(9), 15, 30, 7)) for _ in range(many)))
    return rows


def great_factors():
    """Rows of none to forty numbers, to 10 ** 60, of both signs."""
    source = random.Random(223)
    rows = [
        (), (GREAT,), (-GREAT,), (GREAT,) * 40, (1,) * 40, (-1,) * 40, (2,) * 40, (7,) * 40, (5 ** 85, 2 ** 199), (5 ** 85, -(2 ** 199), 3 ** 125),
        tuple(range(1, 41)), tuple(10 ** k for k in range(40)), (GREAT - 1, 1 - GREAT) * 20, (6 ** 77, 15 ** 51) * 10,
    ]
    for many in (1, 2, 3, 13, 39, 40):
        row = []
        for _ in range(many):
            number = 2 ** source.randrange(60) * 3 ** source.randrange(30) * 5 ** source.randrange(20) * 7 ** source.randrange(5)
            row.append(source.choice((1, -1)) * min(GREAT, number * source.randrange(1, 50)))
        rows.append(tuple(row))
    return rows


class ExamplesTest(ExampleCase):
    def test_examples(self):
        self.assertEqual(self.run_examples(EXAMPLES_J2 + EXAMPLES_J3, {}), 7)


class KeepableTest(CallCase):
    def test_against_all_multiples(self):
        for base, figures in ((2, 1), (2, 3), (3, 2), (4, 1), (4, 2), (6, 1), (8, 1), (9, 1), (10, 1), (10, 2), (12, 1), (36, 1), (1000, 1)):
            kept = {m * base ** k for k in range(12) for m in range(base ** figures)}
            for number in range(0, 3000):
                self.assertIs(keepable(base, figures, number), number in kept)
                self.assertIs(keepable(base, figures, -number), number in kept)

    def test_around_the_bound(self):
        source = random.Random(227)
        for base in (2, 3, 4, 7, 10, 12, 60, 72, 999, 1000):
            for figures in (1, 2, 3, 17, 59, 60):
                end = base ** figures
                for number, expected in ((end - 1, True), (end, True), (end + 1, False), (end * base, True), ((end - 1) * base ** 7, True)):
                    self.assertCall(expected, keepable, base=base, figures=figures, number=number)
                    self.assertCall(expected, keepable, base=base, figures=figures, number=-number)
                for _ in range(5):
                    number = source.randrange(1, end * base) * base ** source.randrange(5)
                    self.assertIs(keepable(base, figures, number), plainly_keepable(base, figures, number))
                    self.assertIs(keepable(base, figures, -number), plainly_keepable(base, figures, number))
                    # base times as much is keepable as well.
                    self.assertIs(keepable(base, figures, number * base), keepable(base, figures, number))

    def test_of_400_digits(self):
        for number, expected in (
            (10 ** 399, True), (10 ** 400 - 1, False), (99 * 10 ** 398, True), (101 * 10 ** 397, False), (10 ** 399 + 1, False),
            (12 * 10 ** 398, True), (123 * 10 ** 397, False), (10 ** 399 + 10 ** 398, True),
        ):
            self.assertCall(expected, keepable, base=10, figures=2, number=number)
            self.assertCall(expected, keepable, base=10, figures=2, number=-number)
        self.assertCall(True, keepable, base=2, figures=60, number=(2 ** 60 - 1) * 2 ** 1200)
        self.assertCall(False, keepable, base=2, figures=60, number=(2 ** 60 + 1) * 2 ** 1200)
        self.assertCall(False, keepable, base=4, figures=60, number=2 * (4 ** 60 - 1) * 4 ** 500)
        self.assertCall(True, keepable, base=12, figures=1, number=11 * 12 ** 300)
        # 8 is no multiple of 12, however many twos there are.
        self.assertCall(False, keepable, base=12, figures=1, number=2 ** 1300)

    def test_0(self):
        for base, figures in itertools.product((2, 4, 10, 999, 1000), (1, 2, 60)):
            self.assertCall(True, keepable, base=base, figures=figures, number=0)

    def test_raises_nothing(self):
        for base in range(2, 1001):
            self.assertIs(keepable(base, 1, base), True)
            self.assertIs(keepable(base, 1, base + 1), False)
            self.assertIs(keepable(base, 2, base + 1), True)

    def test_what_fits_a_float_scale(self):
        for base, figures, levels in ((10, 2, 2), (2, 3, 4), (6, 1, 3), (12, 1, 2)):
            scale = float_scale(base, figures, levels)
            for number in range(base ** (figures + levels)):
                self.assertIs(keepable(base, figures, number), fits(scale, number))


class ProductsCase(CallCase):
    def check_shares(self, base, numbers):
        told = shares(base, numbers)
        self.assertEqual(repr(told), repr(tuple(
            (prime, plain_share(base, prime, numbers).numerator, plain_share(base, prime, numbers).denominator)
            for prime in PRIMES[base]
        )))
        return told

    def check_lot(self, base, figures, numbers, expected):
        """products_exact is expected, and bad_lot a lot that shows it, or None."""
        self.assertIs(products_exact(base, figures, numbers), expected)
        lot = bad_lot(base, figures, numbers)
        self.assertEqual(repr(bad_lot(base, figures, numbers)), repr(lot))
        if expected:
            self.assertIsNone(lot)
            return
        self.assertIs(type(lot), tuple)
        self.assertEqual([type(place) for place in lot], [int] * len(lot))
        self.assertEqual(lot, tuple(sorted(set(lot))))
        self.assertTrue(set(lot) <= set(range(len(numbers))))
        self.assertFalse(plainly_keepable(base, figures, math.prod(numbers[place] for place in lot)))


class SmallTest(ProductsCase):
    def test_against_all_lots(self):
        told = set()
        for numbers in few_factors():
            for base in PRIMES:
                products = {math.prod(numbers[place] for place in lot) for lot in lots_of(len(numbers))}
                for figures in (1, 2, 3, 5):
                    expected = all(plainly_keepable(base, figures, product) for product in products)
                    self.check_lot(base, figures, numbers, expected)
                    told.add((len(PRIMES[base]), expected))
                self.check_shares(base, numbers)
        self.assertEqual(told, set(itertools.product(range(1, 5), (True, False))))

    def test_just_at_the_bound(self):
        """Shares of one less than base ** figures, and of one more; a share that is just this there is not ([J4]):
        its prime would stand in the product as often as in base ** (figures + v), but it does so v times."""
        for base in PRIMES:
            for figures in (1, 2, 5, 60):
                end = base ** figures
                for number in (end - 1, end + 1):
                    if 1 < number <= GREAT:
                        # Nothing of base divides it, so its weight is the number itself for each prime.
                        expected = tuple((prime, number, 1) for prime in PRIMES[base])
                        self.assertCall(expected, shares, base=base, numbers=(number,))
                        self.check_lot(base, figures, (number,), number < end)
                        self.check_lot(base, figures, (1, -number, 1), number < end)
                    if number * base <= GREAT:
                        self.check_lot(base, figures, (number * base,), number < end)
                if end <= GREAT:
                    self.assertCall(tuple((prime, 1, 1) for prime in PRIMES[base]), shares, base=base, numbers=(end, -end))
                    self.check_lot(base, figures, (end, -end), True)

    def test_just_at_the_bound_by_several_numbers(self):
        for numbers, figures, expected in (
            ((9, 11), 2, True), ((7, 11, 13), 3, False), ((27, 37), 3, True), ((11, 9, 10, 1000), 2, True), ((-7, 13, -11, 8), 3, False),
            ((9, 101, 11), 4, True), ((73, 137), 4, False), ((73, -137, 1), 5, True),
        ):
            self.check_lot(10, figures, numbers, expected)
        for numbers, figures, expected in (((5, 7), 2, True), ((37,), 2, False), ((5, 7, 2), 2, False), ((5, 7, 6), 2, True), ((5, 7, 36), 2, True)):
            self.check_lot(6, figures, numbers, expected)
        for numbers, figures, expected in (((3, 5, 17), 8, True), ((257,), 8, False), ((3, 5, 17, -2), 8, True), ((3, 3, 3, 9), 6, False)):
            self.check_lot(2, figures, numbers, expected)

    def test_weights_of_1_and_below(self):
        # For 5 the weight of 10 is 1, that of 5 is 1 / 2; they count for nothing.
        self.assertCall(((2, 5, 1), (5, 1, 1)), shares, base=10, numbers=(10, 5, 100))
        self.assertCall(((2, 15, 1), (5, 3, 2)), shares, base=10, numbers=(15,))
        self.assertCall(((2, 3375, 1), (5, 27, 8)), shares, base=10, numbers=(15, -15, 15))
        self.assertCall(((2, 1, 1), (5, 256, 1)), shares, base=10, numbers=(40,) * 4)
        self.assertCall(((2, 25, 1), (5, 32, 1)), shares, base=10, numbers=(25, 40, 8))

    def test_signs_and_ones(self):
        for base in PRIMES:
            ones = tuple((prime, 1, 1) for prime in PRIMES[base])
            for numbers in ((), (1,), (-1,), (1, -1, base, -base * base)):
                self.assertCall(ones, shares, base=base, numbers=numbers)
                self.assertCall(True, products_exact, base=base, figures=1, numbers=numbers)
                self.assertCall(None, bad_lot, base=base, figures=1, numbers=numbers)


class GreatTest(ProductsCase):
    def test_told_at_once(self):
        began = time.process_time()
        for numbers in great_factors():
            for base in (2, 7, 10, 997, 30, 210, 966):
                told = self.check_shares(base, numbers)
                for figures in (1, 17, 60):
                    expected = all(above < below * base ** figures for _, above, below in told)
                    self.check_lot(base, figures, numbers, expected)
        self.assertLess(time.process_time() - began, 30)

    def test_forty_numbers(self):
        for numbers, figures, expected in (
            ((10,) * 40, 1, True), ((2,) * 40, 12, False), ((2,) * 40, 13, True), ((2,) * 20 + (5,) * 20, 14, True),
            ((2,) * 20 + (5,) * 20, 13, False), ((3,) * 40, 20, True), ((3,) * 40, 19, False), ((GREAT,) * 40, 1, True),
            ((-GREAT, GREAT - 1) * 20, 60, False), ((GREAT - 1,) + (GREAT,) * 39, 60, True), ((GREAT - 1,) + (GREAT,) * 39, 59, False),
            ((GREAT - 1, 2), 60, False), ((GREAT - 1, -10, 100), 60, True),
        ):
            self.check_lot(10, figures, numbers, expected)
            self.assertCall(expected, products_exact, base=10, figures=figures, numbers=numbers)
            lot = self.called(bad_lot, base=10, figures=figures, numbers=numbers)
            self.assertEqual(lot is None, expected)


class UnfitTest(CallCase):
    def test_all_bases(self):
        for base in range(2, 1001):
            for function, named in (
                (products_exact, {"figures": 1, "numbers": (1, 2)}), (shares, {"numbers": (1, 2)}), (bad_lot, {"figures": 1, "numbers": (1, 2)}),
            ):
                if is_square_free(base):
                    function(base, *named.values())
                else:
                    with self.assertRaises(Unfit):
                        function(base, *named.values())
        self.assertEqual([base for base in PRIMES if not is_square_free(base)], [])

    def test_ahead_of_all_else(self):
        for base in (4, 8, 9, 12, 18, 25, 50, 98, 961, 999, 1000):
            for numbers in ((), (1,), (7,), (GREAT,) * 40, (base,)):
                self.assertFails(Unfit(), shares, base=base, numbers=numbers)
                for figures in (1, 60):
                    self.assertFails(Unfit(), products_exact, base=base, figures=figures, numbers=numbers)
                    self.assertFails(Unfit(), bad_lot, base=base, figures=figures, numbers=numbers)


class WhatHoldsTest(ProductsCase):
    def test_a_prime_as_base(self):
        for base in (2, 3, 7, 997):
            for numbers in few_factors() + great_factors():
                ((prime, above, below),) = shares(base, numbers)
                self.assertEqual((prime, below), (base, 1))
                for figures in (1, 2, 5, 60):
                    expected = plainly_keepable(base, figures, math.prod(numbers)) if len(numbers) < 7 else above < base ** figures
                    self.check_lot(base, figures, numbers, expected)

    def test_other_orders_and_signs(self):
        source = random.Random(229)
        for numbers in few_factors() + great_factors():
            for base in (7, 10, 42, 330):
                expected = shares(base, numbers)
                self.assertEqual(shares(base, numbers[::-1]), expected)
                self.assertEqual(shares(base, tuple(source.sample(numbers, len(numbers)))), expected)
                for place, number in enumerate(numbers[:5]):
                    for other in (-number, number * base):
                        if abs(other) <= GREAT:
                            row = numbers[:place] + (other,) + numbers[place + 1:]
                            self.assertEqual(shares(base, row), expected)
                            self.check_lot(base, 3, row, products_exact(base, 3, numbers))

    def test_a_number_beside(self):
        for numbers in few_factors() + great_factors():
            for base in (7, 10, 42, 330):
                ahead = shares(base, numbers)
                for number in (1, -1, 2, -15, base, 49):
                    if len(numbers) == 40:
                        continue
                    told = shares(base, numbers + (number,))
                    for (prime, above, below), (other, above_too, below_too) in zip(ahead, told):
                        self.assertEqual(prime, other)
                        self.assertGreaterEqual(above_too * below, above * below_too)
                    for figures in (1, 3):
                        if products_exact(base, figures, numbers + (number,)):
                            self.check_lot(base, figures, numbers, True)


if __name__ == "__main__":
    unittest.main()
