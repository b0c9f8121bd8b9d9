import itertools
import random
import time
import unittest

from everyexact.addends import bag_of, exact_numbers
from everyexact.bags import bag_error, looks
from everyexact.exactness import exact
from everyexact.products import keepable
from everyexact.widths import cut, figures_of, greatest_many, least_cut, least_figures, mark
from tests.calling import CallCase, ExampleCase
from tests.samples import (
    GREAT, MANY, TENS, WIDE, all_sums, bags_to_five, few_numbers, great_bags, great_scales, lots_of, near_scales, plainly_exact,
    plainly_exact_numbers, small_scales, to_forty,
)

EXAMPLES_K2 = """
    >>> from everyexact.widths import cut, figures_of, greatest_many, least_cut, least_figures, mark
    >>> [figures_of(10, number) for number in (0, 7, 1200, -305, 10 ** 40)], [figures_of(2, number) for number in (12, 7, 8, 11)], figures_of(1000, 5000000)
    ([0, 1, 2, 3, 1], [2, 3, 1, 4], 1)
    >>> slim = (((0, 3), 2), ((0, 5, 7), 1))
    >>> least_figures(10, slim), least_figures(2, slim), least_figures(2, ()), least_figures(10, (((-20, 0, 30), 10 ** 30),))
    (2, 4, 1, 31)
"""

EXAMPLES_K3 = """
    >>> mark(2, (3, 5, -1)), mark(10, (120, 30, -250, 0)), mark(10, (70, 30, -5)), mark(10, (20,)), mark(12, (144, -6, 18))
    ((0, 7, 1), (1, 150, 250), (0, 95, 5), (1, 20, -20), (0, 162, 6))
"""

EXAMPLES_K4 = """
    >>> tens = ((99, 10), (999, 100), (9999, 0))
    >>> [greatest_many(tens, item) for item in ((0, 25), (0, 50), (-100, 0, 100), (0, 10000), (0, 7, 20))]
    [4, 20, 99, 0, 5]
    >>> greatest_many(tens, (0,)) == greatest_many((), (0, 7)) == greatest_many(((99, 10),), (-30, 0, 40)) == 10 ** 30
    True
"""

EXAMPLES_K5 = """
    >>> [cut(10, places, 1299) for places in (0, 1, 2, 4)], cut(10, 2, -1299), cut(2, 3, 13)
    ([1299, 1290, 1200, 0], -1200, 8)
    >>> least_cut(tens, 10, (123, 45)), least_cut(tens, 2, (123, 45)), least_cut(tens, 10, (950, 77)), least_cut(tens, 10, (10000,)), least_cut(tens, 10, ())
    (1, 3, 2, 5, 0)
    >>> least_cut(((50, 7),), 10, (63,)), least_cut(((50, 7),), 10, (64,))
    (0, 2)
"""

BASES = (2, 3, 4, 7, 8, 9, 10, 12, 16, 36, 60, 72, 100, 500, 997, 999, 1000)


def figures_from_the_end(base, number):
    """The figures of an integer, written down, the last one first."""
    rest, figures = abs(number), []
    while rest:
        rest, figure = divmod(rest, base)
        figures.append(figure)
    return figures


def plain_width(base, number):
    figures = figures_from_the_end(base, number)
    while figures and figures[0] == 0:
        figures.pop(0)
    return len(figures)


def noughts_at_the_end(base, number):
    return len(figures_from_the_end(base, number)) - plain_width(base, number)


def plain_cut(base, places, number):
    figures = [0] * places + figures_from_the_end(base, number)[places:]
    value = 0
    for figure in figures[::-1]:
        value = value * base + figure
    return value if number > 0 else -value


def plain_mark(base, numbers):
    """As [K3] tells it, figure by figure."""
    some = [number for number in numbers if number != 0]
    end = min(noughts_at_the_end(base, number) for number in some)
    least = min(abs(number) for number in some if noughts_at_the_end(base, number) == end)
    told = [end]
    for total in (sum(number for number in some if number > 0), -sum(number for number in some if number < 0)):
        figures = figures_from_the_end(base, total)
        told.append(total - least if len(figures) <= end or figures[end] == 0 else total)
    return tuple(told)


class ExamplesTest(ExampleCase):
    def test_examples(self):
        self.assertEqual(self.run_examples(EXAMPLES_K2 + EXAMPLES_K3 + EXAMPLES_K4 + EXAMPLES_K5, {}), 11)


class FiguresTest(CallCase):
    def test_small(self):
        for base in range(2, 20):
            for number in range(-600, 601):
                self.assertEqual(figures_of(base, number), plain_width(base, number))

    def test_all_bases(self):
        source = random.Random(233)
        for base in range(2, 1001):
            for number in (0, 1, base - 1, base, base + 1, base * base - 1, base * base, base ** 3 - base, base ** 3 + base):
                self.assertEqual(figures_of(base, number), plain_width(base, number))
            for _ in range(3):
                number = source.choice((1, -1)) * source.randrange(10 ** source.randrange(1, 300)) * base ** source.randrange(30)
                self.assertEqual(figures_of(base, number), plain_width(base, number))

    def test_to_400_digits(self):
        for base in BASES:
            for number in (10 ** 400 - 1, 10 ** 399, -10 ** 399 - 1, 2 ** 1328, 7 * 10 ** 398, base ** 130, -(base ** 130) - 1, base ** 130 - base ** 7):
                self.assertCall(plain_width(base, number), figures_of, base=base, number=number)
        self.assertCall(400, figures_of, base=10, number=10 ** 400 - 1)
        self.assertCall(1, figures_of, base=10, number=-10 ** 399)
        self.assertCall(399, figures_of, base=10, number=10 ** 399 + 10)
        self.assertCall(1, figures_of, base=2, number=2 ** 1328)
        self.assertCall(1329, figures_of, base=2, number=2 ** 1328 + 1)

    def test_keepable_with_so_many(self):
        for base in BASES:
            for number in (1, 7, 1200, 305, 12 * base ** 5, base ** 9 + base ** 3, 10 ** 30 - 1):
                many = figures_of(base, number)
                self.assertIs(keepable(base, many, number), True)
                self.assertIs(many == 1 or not keepable(base, many - 1, number), True)


class LeastFiguresTest(CallCase):
    def test_against_all_choices(self):
        for bag in bags_to_five():
            sums = all_sums(bag)
            for base in (2, 3, 4, 6, 10, 12, 1000):
                expected = max(1, max(plain_width(base, total) for total in sums))
                self.assertEqual(repr(least_figures(base, bag)), repr(expected))

    def test_the_least_one(self):
        for bag in bags_to_five()[::4]:
            sums = all_sums(bag)
            for base in (2, 10, 12):
                many = self.called(least_figures, base=base, bag=bag)
                self.assertTrue(all(keepable(base, many, total) for total in sums))
                self.assertTrue(many == 1 or not all(keepable(base, many - 1, total) for total in sums))

    def test_without_kinds_and_of_0_alone(self):
        for base in BASES:
            for bag in ((), (((0,), 1),), (((0,), MANY),), (((0,), 1),) * 12):
                self.assertCall(1, least_figures, base=base, bag=bag)

    def test_great_bags(self):
        began = time.process_time()
        wide = tuple((tuple(sorted({value * (k + 1) // 3 * 7 ** k for value in range(-20, 20)} | {0})), MANY - k) for k in range(12))
        self.assertIsNone(bag_error(wide))
        for bag in great_bags() + [wide]:
            for base in (2, 10, 999, 1000):
                expected = max(1, max(plain_width(base, total) for total in looks(bag)))
                self.assertEqual(least_figures(base, bag), expected)
        # 12 * 10 ** 90 at the most, and one item off it 1 less.
        self.assertCall(92, least_figures, base=10, bag=((WIDE, MANY),) * 12)
        self.assertCall(30, least_figures, base=10, bag=(((0, 10 ** 30), MANY),))
        self.assertCall(31, least_figures, base=10, bag=(((0, 1), MANY), ((0, 7), 3)))
        self.assertCall(1, least_figures, base=10, bag=(((0, 5), 1), ((-4, 0), 2)))
        self.assertLess(time.process_time() - began, 20)

    def test_numbers_as_a_bag(self):
        """least_figures of the bag of numbers is the least p with base ** (p + e) above A and B."""
        for numbers in few_numbers(6):
            if any(numbers):
                for base in (2, 3, 10, 12):
                    end, above, below = mark(base, numbers)
                    least = 1
                    while base ** (least + end) <= max(above, below):
                        least += 1
                    self.assertEqual(least_figures(base, bag_of(numbers)), least)


class MarkTest(CallCase):
    def rows(self):
        """Rows of numbers of one sign and of both, with noughts among them, and with noughts at their ends."""
        source = random.Random(239)
        rows = [numbers for numbers in few_numbers(6) if any(numbers)]
        for many in (1, 2, 3, 4, 5, 6) * 6:
            unit = source.choice((1, 10, 100, 2, 8, 12, 144))
            row = tuple(unit * source.randrange(-30, 31) * source.choice((1, 1, 10, 2, 12)) for _ in range(many))
            rows += [row + (0,), tuple(abs(number) for number in row), tuple(-abs(number) for number in row) + (unit,)]
        return [row for row in rows if any(row)]

    def test_as_told(self):
        for numbers in self.rows():
            for base in (2, 3, 4, 6, 10, 12, 100):
                self.assertEqual(repr(mark(base, numbers)), repr(plain_mark(base, numbers)))

    def test_against_all_lots(self):
        """The sums of all lots are keepable with p figures exactly if A and B are below base ** (p + e)."""
        for numbers in self.rows()[::2]:
            sums = {sum(numbers[place] for place in lot) for lot in lots_of(len(numbers))}
            for base in (2, 3, 10, 12):
                end, above, below = mark(base, numbers)
                for figures in range(1, 12):
                    expected = all(plain_width(base, total) <= figures for total in sums)
                    self.assertIs(max(above, below) < base ** (figures + end), expected)

    def test_sums_with_a_nought(self):
        for base, numbers, expected in (
            (2, (3, 5, -1), (0, 7, 1)), (2, (3, 5), (0, 5, -3)), (2, (-3, -5), (0, -3, 5)), (2, (1,), (0, 1, -1)), (10, (5, 5), (0, 5, -5)),
            (10, (-5, -5, 20), (0, 15, 5)), (10, (50, 50, -7), (0, 93, 7)), (10, (500, 500, 0), (2, 500, -500)), (10, (1,) * 10, (0, 9, -1)),
            (10, (30, -30), (1, 30, 30)), (4, (2, 2), (0, 2, -2)), (4, (6, -8), (0, 6, 2)), (4, (16, 16, 16, 16), (2, 48, -16)),
            (12, (6, 6, 6, -4), (0, 18, 4)), (12, (144, -6, 18), (0, 162, 6)), (12, (24, 36, -48), (1, 60, 48)), (10, (100, 1000), (2, 1100, -100)),
            (10, (0, 0, 700, 300, -1000), (2, 700, 700)), (1000, (999, 1), (0, 999, -1)), (1000, (1000, 999000), (1, 999000, -1000)),
        ):
            self.assertCall(expected, mark, base=base, numbers=numbers)
            self.assertCall((expected[0], expected[2], expected[1]), mark, base=base, numbers=tuple(-number for number in numbers))
            self.assertCall(expected, mark, base=base, numbers=(0,) + numbers[::-1])

    def test_forty_numbers(self):
        source = random.Random(241)
        rows = [(GREAT,) * 40, (-GREAT,) * 39 + (GREAT - 1,), (1,) * 40, (0,) * 39 + (7,), tuple(range(-20, 20)), tuple(10 ** k for k in range(40))]
        rows += [tuple(10 ** 20 * source.randrange(-10 ** 40, 10 ** 40) for _ in range(40)) for _ in range(6)]
        rows += [tuple(2 ** k * 3 ** (k % 7) * (-1) ** k for k in range(1, 41))]
        for numbers in rows:
            for base in BASES:
                self.assertCall(plain_mark(base, numbers), mark, base=base, numbers=numbers)


class GreatestManyTest(CallCase):
    def check_greatest(self, scale, item):
        """So many items are exact, and one more are not, or there are MAX_MANY of them."""
        many = greatest_many(scale, item)
        self.assertEqual(repr(greatest_many(scale, item)), repr(many))
        self.assertIs(type(many), int)
        self.assertTrue(0 <= many <= MANY)
        if many > 0:
            self.assertTrue(exact(scale, ((item, many),)))
        if many < MANY:
            self.assertFalse(exact(scale, ((item, many + 1),)))
        return many

    def test_against_all_choices(self):
        told = set()
        for bag in bags_to_five():
            for item, _ in bag[:2]:
                for scale in near_scales(all_sums(((item, 3),)))[::9] + small_scales()[::150] + [TENS]:
                    many = self.check_greatest(scale, item)
                    told.add(min(many, 10))
                    for few in range(1, 6):
                        self.assertIs(plainly_exact(scale, ((item, few),)), few <= many)
        self.assertLessEqual({0, 1, 2, 3, 4, 5, 10}, told)

    def test_noughts_alone(self):
        for scale in small_scales()[::20] + great_scales() + [(), ((0, 0),)]:
            self.assertCall(MANY, greatest_many, scale=scale, item=(0,))

    def test_great(self):
        for scale, item, expected in (
            ((), WIDE, MANY), ((), (0, 1), MANY), (((GREAT, 0),), (0, GREAT), 1), (((GREAT, 0),), (-GREAT, 0, GREAT), 1),
            (((GREAT - 1, 0),), (0, GREAT), 0), (((GREAT, 0),), (0, 10 ** 30), MANY), (((GREAT - 1, 0),), (0, 10 ** 30), MANY - 1),
            (((GREAT, 0),), (0, 10 ** 30 + 1), 10 ** 30 - 1), (((GREAT, 0),), (-7, 0, 10 ** 31), 10 ** 29), (((0, 2),), (-4, 0, 6), MANY),
            (((0, 2),), (-4, 0, 3), 0), (((10 ** 40, 2),), (0, 3), MANY),
            (((10 ** 20, 2),), (0, 1), 10 ** 20), (((10 ** 20 + 1, 2),), (0, 1), 10 ** 20 + 2), (((10 ** 20, 2), (9, 0)), (0, 3), 3), (((0, 0),), (0, 1), 0),
            (((0, 0),), (0,), MANY), (((0, 7),), (-7, 0, 14), MANY), (((0, 7), (10 ** 9, 0)), (-7, 0, 14), 10 ** 9 // 14),
        ):
            self.assertCall(expected, greatest_many, scale=scale, item=item)
            self.assertEqual(self.check_greatest(scale, item), expected)

    def test_forty_rules_at_once(self):
        began = time.process_time()
        wide = tuple(k * 10 ** 18 for k in range(-19, 21))
        scales = great_scales() + to_forty(((10 ** 40, 10 ** 18), (10 ** 55, 0)), 10 ** 56) + [(), ((0, 10 ** 18),)]
        for scale in scales:
            for item in (WIDE, wide, (0, 1), (0, 10 ** 18), (-10 ** 30, 0, 10 ** 31), (0, GREAT), tuple(range(40))):
                self.check_greatest(scale, item)
        self.assertLess(time.process_time() - began, 60)

    def test_fewer_items(self):
        """If so many are exact, so are fewer, and others that are changed or taken out."""
        for item in ((0, 25), (-3, 0, 7), (0, 50, 100)):
            many = greatest_many(TENS, item)
            self.assertGreater(many, 1)
            for few in range(1, many + 3):
                self.assertIs(exact(TENS, ((item, few),)), few <= many)


class CutTest(CallCase):
    def test_small(self):
        for base in (2, 3, 4, 10, 12):
            for places in range(0, 8):
                for number in range(-300, 301):
                    self.assertEqual(repr(cut(base, places, number)), repr(plain_cut(base, places, number)))

    def test_great(self):
        source = random.Random(251)
        numbers = [0, 10 ** 399, 10 ** 400 - 1, 1 - 10 ** 400, 2 ** 1300 + 1, 10 ** 60] + [source.randrange(-10 ** 399, 10 ** 399) for _ in range(5)]
        for base in BASES:
            for places in (0, 1, 2, 7, 100, 399, 400):
                for number in numbers:
                    self.assertEqual(repr(cut(base, places, number)), repr(plain_cut(base, places, number)))
        self.assertCall(0, cut, base=10, places=400, number=10 ** 400 - 1)
        self.assertCall(9 * 10 ** 399, cut, base=10, places=399, number=10 ** 400 - 1)
        self.assertCall(-9 * 10 ** 399, cut, base=10, places=399, number=1 - 10 ** 400)
        self.assertCall(10 ** 400 - 1, cut, base=1000, places=0, number=10 ** 400 - 1)
        self.assertCall(0, cut, base=1000, places=400, number=-10 ** 399)

    def test_signs(self):
        for base, places, number in itertools.product((2, 10, 12), (0, 1, 3), (7, 1299, 40, 1, 10 ** 50 + 7)):
            self.assertEqual(cut(base, places, -number), -cut(base, places, number))
            self.assertTrue(0 <= cut(base, places, number) <= number)
            self.assertEqual(cut(base, places, number) % base ** places, 0)


class LeastCutTest(CallCase):
    def check_least(self, scale, base, numbers):
        """Count by count: the least one by which the numbers that are cut are exact."""
        many = least_cut(scale, base, numbers)
        self.assertEqual(repr(least_cut(scale, base, numbers)), repr(many))
        for places in range(many + 1):
            row = tuple(plain_cut(base, places, number) for number in numbers)
            self.assertIs(exact_numbers(scale, row), places == many)
        return many

    def test_count_by_count(self):
        source = random.Random(257)
        told = set()
        for numbers in few_numbers(5):
            row = tuple(number * source.choice((1, 7, 13)) for number in numbers)
            for scale in (TENS, ((9, 2), (40, 8)), ((0, 6),), ((5, 0),), (), ((50, 7),), ((0, 0),), ((20, 3), (60, 0))):
                for base in (2, 3, 10, 12):
                    many = self.check_least(scale, base, row)
                    told.add(many)
                    cuts = tuple(plain_cut(base, many, number) for number in row)
                    self.assertTrue(plainly_exact_numbers(scale, cuts))
        self.assertLessEqual({0, 1, 2, 3, 4}, told)

    def test_no_numbers_and_noughts(self):
        for scale in ((), TENS, ((0, 0),)):
            for base in (2, 10, 1000):
                self.assertCall(0, least_cut, scale=scale, base=base, numbers=())
                self.assertCall(0, least_cut, scale=scale, base=base, numbers=(0,) * 40)

    def test_a_greater_count_need_not_do(self):
        # 63 fits, 60 does not, 0 does.
        self.assertCall(0, least_cut, scale=((50, 7),), base=10, numbers=(63,))
        self.assertCall(2, least_cut, scale=((50, 7),), base=10, numbers=(64,))
        self.assertCall(1, least_cut, scale=((50, 7), (69, 0)), base=10, numbers=(50, 3))

    def test_great(self):
        began = time.process_time()
        forty = tuple((-1) ** k * (GREAT - 7 ** k) for k in range(40))
        for scale in [((GREAT - 1, 10 ** 20),), ((0, 0),), ((10 ** 30, 10 ** 40),), ((GREAT, 2 ** 90),)] + great_scales()[:6]:
            for base in (2, 10, 1000):
                self.check_least(scale, base, forty)
        for base, expected in ((2, 200), (10, 61), (1000, 21), (999, 21), (7, 71)):
            # Nothing but 0 fits, so all figures have to go.
            self.assertCall(expected, least_cut, scale=((0, 0),), base=base, numbers=(GREAT,))
        self.assertLess(time.process_time() - began, 60)


if __name__ == "__main__":
    unittest.main()
