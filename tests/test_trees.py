import itertools
import random
import unittest

from everyexact.addends import exact_numbers
from everyexact.errors import Unfit
from everyexact.trees import is_clean, tree_error, tree_sums, unclean
from tests.calling import CallCase, ExampleCase
from tests.samples import (
    GREAT, TENS, all_trees, any_values, great_scales, lots_of, near_scales, nested, plainly_exact_numbers, plainly_fits,
)

EXAMPLES_D5 = """
    >>> from everyexact.trees import is_clean, tree_error, tree_sums, unclean
    >>> [tree_error(3, value) for value in (((0, 1), 2), (2, (0, 1)), 0, ((0, 0), 1), ((0, 1), (2, 3)), ((0, -1), (1, 2)))]
    [None, None, ('place', 1), ('place', 0), 'far', 'far']
    >>> [tree_error(2, value) for value in ((1, 0), [0, 1], (0, 1, 2), (0, True), (0, (1,)), None)], tree_error(1, 0)
    ([None, 'form', 'form', 'form', 'form', 'form'], None)
    >>> tree_sums(fifty, ((0, 1), 2)), tree_sums(four, ((0, 1), (2, 3))), tree_sums((7,), 0)
    ((50, 30, 80, 20, 100), (63, 37, 100, 52, 48, 100, 200), (7,))
    >>> is_clean(tens, four, ((0, 1), (2, 3))), is_clean(tens, four, (((0, 1), 2), 3)), is_clean(tens, three, (0, (2, 1)))
    (True, False, True)
"""

EXAMPLES_D6 = """
    >>> unclean(tens, fifty), is_clean(tens, four, unclean(tens, four)), unclean(tens, (105,)), unclean(tens, (60, 45)) in ((0, 1), (1, 0))
    (None, False, 0, True)
    >>> unclean(tens, ())
    raises Unfit()
"""

NAMES = {"tens": TENS, "fifty": (50, 30, 20), "three": (60, 45, 55), "four": (63, 37, 52, 48)}


def joined(places, left):
    """A tree as deep as it can be."""
    tree = places[0]
    for place in places[1:]:
        tree = (tree, place) if left else (place, tree)
    return tree


def halved(places):
    """A tree as flat as it can be."""
    if len(places) == 1:
        return places[0]
    middle = len(places) // 2
    return (halved(places[:middle]), halved(places[middle:]))


def with_leaf(tree, place, other):
    """tree with other in the place of a leaf."""
    if isinstance(tree, tuple):
        return tuple(with_leaf(part, place, other) for part in tree)
    return other if tree == place else tree


def plain_sums(numbers, tree):
    """The sums of all parts, each from its leaves."""
    def leaves(part):
        return leaves(part[0]) + leaves(part[1]) if isinstance(part, tuple) else [part]

    def parts(part):
        return parts(part[0]) + parts(part[1]) + [part] if isinstance(part, tuple) else [part]

    return tuple(sum(numbers[place] for place in leaves(part)) for part in parts(tree))


class ExamplesTest(ExampleCase):
    def test_examples(self):
        self.assertEqual(self.run_examples(EXAMPLES_D5 + EXAMPLES_D6, dict(NAMES)), 7)


class TreeErrorTest(CallCase):
    def test_all_trees_of_few_places(self):
        for many, expected in ((1, 1), (2, 2), (3, 12), (4, 120), (5, 1680)):
            trees = all_trees(tuple(range(many)))
            self.assertEqual(len(trees), expected)
            for tree in trees:
                self.assertIsNone(tree_error(many, tree))
                if many < 5:
                    self.assertCall(None, tree_error, many=many, value=tree)
                    self.assertCall("far", tree_error, many=many - 1 or 1, value=tree if many > 1 else (0, 7))
                    self.assertCall(("place", many), tree_error, many=many + 1, value=tree)

    def test_against_counts(self):
        """All pairs of small trees with leaves from -1 to 3, right and wrong."""
        leaves = (-1, 0, 1, 2, 3)
        small = list(leaves) + list(itertools.product(leaves, leaves))
        for tree in small + list(itertools.product(small, small)):
            found = [int(word) for word in str(tree).replace("(", " ").replace(")", " ").replace(",", " ").split()]
            for many in (1, 2, 3, 4):
                wrong = [place for place in range(many) if found.count(place) != 1]
                expected = ("place", wrong[0]) if wrong else "far" if len(found) > many else None
                self.assertEqual(repr(tree_error(many, tree)), repr(expected))

    def test_each_thing_wrong_once(self):
        for many in (2, 3, 5, 17, 40):
            places = tuple(range(many))
            trees = [halved(places), halved(places[::-1]), joined(places, True), joined(places, False)]
            for tree in trees:
                self.assertCall(None, tree_error, many=many, value=tree)
                for place in {0, 1, many // 2, many - 1}:
                    self.check_leaf(many, tree, place)

    def check_leaf(self, many, tree, place):
        other = (place + 1) % many
        # A place twice, and another one left out: the lesser one is told.
        self.assertCall(("place", min(place, other)), tree_error, many=many, value=with_leaf(tree, place, other))
        for far in (many, many + 1, -1, -many, 10 ** 399, -10 ** 399):
            self.assertCall(("place", place), tree_error, many=many, value=with_leaf(tree, place, far))
            self.assertCall("far", tree_error, many=many, value=with_leaf(tree, place, (place, far)))
            self.assertCall("far", tree_error, many=many, value=(far, tree))
        self.assertCall(("place", place), tree_error, many=many, value=with_leaf(tree, place, (place, place)))
        for wrong in (
            True, False, None, [place, place], [place], (place,), (), (place, place, place), "0", "", {}, {place: place},
            (place, True), (place, [place]), ((place,), place), (place, None), ((), ()), b"0",
        ):
            self.assertCall("form", tree_error, many=many, value=with_leaf(tree, place, wrong))

    def test_order_of_answers(self):
        self.assertCall("form", tree_error, many=3, value=((0, 0), (7, None)))
        self.assertCall("form", tree_error, many=3, value=((None, 0), (7, 0)))
        self.assertCall(("place", 0), tree_error, many=3, value=((-1, 7), (1, 2)))
        self.assertCall(("place", 0), tree_error, many=3, value=((0, 0), (1, 1)))
        self.assertCall(("place", 1), tree_error, many=3, value=((0, 7), (1, 1)))
        self.assertCall(("place", 2), tree_error, many=3, value=((0, 7), (1, 7)))
        self.assertCall("far", tree_error, many=3, value=((0, 2), (1, 7)))
        self.assertCall("far", tree_error, many=1, value=(0, 1))
        self.assertCall(("place", 0), tree_error, many=1, value=1)
        self.assertCall(("place", 0), tree_error, many=40, value=-1)
        self.assertCall(("place", 1), tree_error, many=2, value=0)

    def test_any_value(self):
        for value in any_values():
            for many in (1, 2, 40):
                if type(value) is int:
                    expected = None if (many, value) == (1, 0) else ("place", 1 if value == 0 else 0)
                elif value == (0, 0) and type(value) is tuple:
                    expected = ("place", 0)
                elif value == (5, 2):
                    expected = ("place", 0)
                else:
                    expected = "form"
                self.assertCall(expected, tree_error, many=many, value=value)
                if type(value) is not int and value not in ((0, 0), (5, 2)):
                    self.assertCall("form", tree_error, many=many, value=(0, value))
                    self.assertCall("form", tree_error, many=many, value=((value, 0), 1))

    def test_deep(self):
        for wrap in (lambda value: (value, 1), lambda value: (1, value)):
            self.assertCall(("place", 1), tree_error, many=2, value=nested(20, wrap))
        for wrong in (None, True, (1,), [1]):
            tree = joined((wrong,) + tuple(range(40)), True)
            self.assertCall("form", tree_error, many=40, value=tree)
        # Such as this package returns, with a part put in the place of another one.
        tree = unclean(((0, 0),), tuple(range(1, 41)))
        self.assertCall(None, tree_error, many=40, value=tree)
        self.assertCall("far", tree_error, many=39, value=tree)
        self.assertCall(("place", 0), tree_error, many=40, value=(tree, tree))
        self.assertCall(("place", 1), tree_error, many=40, value=with_leaf(tree, 0, tree))
        self.assertCall("form", tree_error, many=40, value=with_leaf(tree, 0, [tree]))


class SumsTest(CallCase):
    def test_told(self):
        self.assertCall((7,), tree_sums, numbers=(7,), tree=0)
        self.assertCall((1, 2, 3), tree_sums, numbers=(1, 2), tree=(0, 1))
        self.assertCall((2, 1, 3), tree_sums, numbers=(1, 2), tree=(1, 0))
        self.assertCall((4, 1, 2, 3, 7), tree_sums, numbers=(1, 2, 4), tree=(2, (0, 1)))
        self.assertCall((1, 2, 3, 4, 7), tree_sums, numbers=(1, 2, 4), tree=((0, 1), 2))
        self.assertCall((1, 4, 5, 8, 2, 10, 15), tree_sums, numbers=(1, 2, 4, 8), tree=((0, 2), (3, 1)))

    def test_against_leaves(self):
        numbers = (1, -20, 300, 4000, -50000)
        for many in range(1, 6):
            for tree in all_trees(tuple(range(many))):
                self.assertEqual(tree_sums(numbers[:many], tree), plain_sums(numbers, tree))

    def test_deep(self):
        source = random.Random(83)
        numbers = tuple(source.randrange(-GREAT, GREAT + 1) for _ in range(40))
        places = tuple(source.sample(range(40), 40))
        for tree in (joined(places, True), joined(places, False), halved(places)):
            sums = self.called(tree_sums, numbers=numbers, tree=tree)
            self.assertEqual(sums, plain_sums(numbers, tree))
            self.assertEqual((len(sums), sums[-1]), (79, sum(numbers)))

    def test_is_clean_against_parts(self):
        told_both = set()
        for numbers in ((60, 45, 55), (63, 37, 52, 48), (105,), (99,), (60, 45), (95, 5, -5), (20, 30, 50, -1), (1, 1, -1, 98)):
            for tree in all_trees(tuple(range(len(numbers)))):
                expected = all(plainly_fits(TENS, total) for total in plain_sums(numbers, tree))
                told_both.add(expected)
                self.assertCall(expected, is_clean, scale=TENS, numbers=numbers, tree=tree)
                self.assertCall(True, is_clean, scale=(), numbers=numbers, tree=tree)
                self.assertCall(False, is_clean, scale=((0, 0),), numbers=numbers, tree=tree)
        self.assertEqual(told_both, {True, False})

    def test_is_clean_at_each_part(self):
        # By steps of 3 each part in its turn is the greatest one that does not fit, or one that does.
        for numbers in ((1, 2, 4, 8), (3, 3, 1, -1), (6, -4, 7, -9)):
            for tree in all_trees((0, 1, 2, 3)):
                sums = plain_sums(numbers, tree)
                for scale in near_scales(set(sums)) + [((abs(total), 3),) for total in sums]:
                    expected = all(plainly_fits(scale, total) for total in sums)
                    self.assertIs(is_clean(scale, numbers, tree), expected)

    def test_is_clean_deep(self):
        numbers = tuple(range(1, 41))
        for left in (True, False):
            tree = joined(tuple(range(40)), left)
            self.assertCall(True, is_clean, scale=((820, 0),), numbers=numbers, tree=tree)
            self.assertCall(False, is_clean, scale=((819, 0),), numbers=numbers, tree=tree)


class UncleanTest(CallCase):
    def check(self, scale, numbers, expected):
        """expected: whether numbers are exact."""
        tree = unclean(scale, numbers)
        self.assertEqual(repr(tree), repr(unclean(scale, numbers)))
        if expected:
            self.assertIsNone(tree)
        else:
            self.assertIsNone(tree_error(len(numbers), tree))
            self.assertIs(is_clean(scale, numbers, tree), False)

    def rows(self):
        source = random.Random(89)
        for many, (low, high), unit in itertools.product((1, 2, 3, 4, 6), ((-5, 5), (0, 9), (-9, 0)), (1, 2, 5)):
            yield tuple(unit * source.randrange(low, high + 1) for _ in range(many))
            yield tuple(unit * source.randrange(low, high + 1) for _ in range(many)) + (source.choice((0, 1, -1)),)

    def test_against_all_sums(self):
        for numbers in self.rows():
            sums = {sum(numbers[place] for place in lot) for lot in lots_of(len(numbers))}
            for scale in near_scales(sums):
                expected = plainly_exact_numbers(scale, numbers)
                self.assertIs(exact_numbers(scale, numbers), expected)
                self.check(scale, numbers, expected)

    def test_exact_exactly_if_all_trees_are_clean(self):
        for numbers in self.rows():
            if len(numbers) <= 4:
                trees = all_trees(tuple(range(len(numbers))))
                for scale in near_scales({0, sum(numbers), numbers[0]})[::3]:
                    expected = all(is_clean(scale, numbers, tree) for tree in trees)
                    self.assertIs(exact_numbers(scale, numbers), expected)

    def test_one_number(self):
        self.assertCall(0, unclean, scale=TENS, numbers=(105,))
        self.assertCall(0, unclean, scale=TENS, numbers=(-105,))
        self.assertCall(None, unclean, scale=TENS, numbers=(110,))
        self.assertCall(None, unclean, scale=((0, 0),), numbers=(0,))
        self.assertCall(0, unclean, scale=((GREAT - 1, 0),), numbers=(GREAT,))

    def test_no_numbers(self):
        for scale in ((), TENS, ((0, 0),)):
            self.assertFails(Unfit(), unclean, scale=scale, numbers=())

    def test_calls(self):
        self.assertCall(None, unclean, scale=TENS, numbers=(50, 30, 20))
        self.assertCall(None, unclean, scale=((0, 0),), numbers=(0,) * 40)
        for numbers in ((63, 37, 52, 48), (60, 45, 55), (95, 5, 5), (9900, 100), (1, -1) * 20 + (100, 1), (0,) * 39 + (101,)):
            self.assertIs(is_clean(TENS, numbers, self.called(unclean, scale=TENS, numbers=numbers)), False)

    def test_forty(self):
        source = random.Random(97)
        for unit, low, high in ((1, -5, 5), (2, -20, 20), (3, 1, 60), (4, -60, -1), (10 ** 20, -10 ** 39, 10 ** 39)):
            for off in (0, 1, -1):
                numbers = tuple(unit * source.randrange(low, high + 1) for _ in range(39)) + (off,)
                top = sum(number for number in numbers if number > 0)
                low_sum = sum(number for number in numbers if number < 0)
                for scale in near_scales({0, top, low_sum}) + great_scales()[::5]:
                    if all(0 <= bound <= GREAT for bound, _ in scale):
                        self.check(scale, numbers, exact_numbers(scale, numbers))


if __name__ == "__main__":
    unittest.main()
