import itertools
import unittest

from everyexact.bags import bag_error, choice_error, ends, looks, sum_of
from tests.calling import CallCase, ExampleCase
from tests.samples import GREAT, MANY, PAY, WIDE, any_values, great_bags, small_bags, taken, told

EXAMPLES_C2 = """
    >>> from everyexact.bags import bag_error, choice_error, ends, looks, sum_of
    >>> pay = (((-20, 0, 30), 2), ((0, 5), 3))
    >>> [bag_error(value) for value in (pay, (), (((0,), 10 ** 30),), [pay[0]], pay * 7, pay[0])]
    [None, None, None, 'form', 'form', ('kind', 0)]
    >>> [bag_error((pay[0], kind)) for kind in (((0, 5), 0), ((1, 5), 3), ((5, 0), 3), ([0, 5], 3), ((0, 5), True), ((0, 10 ** 60), 1), ((0, 10 ** 61), 1))]
    [('kind', 1), ('kind', 1), ('kind', 1), ('kind', 1), ('kind', 1), None, ('kind', 1)]
    >>> [choice_error(pay, value) for value in (((0, 1, 1), (1, 2)), ((2, 0, 0), (0, 3)), ((0, 1, 1),), [(0, 1, 1), (1, 2)], ((0, 1, 2), (1, 2)), ((0, 1, 1), (4, -1)), ((0, 1, 1), (1, 2, 0)))]
    [None, None, 'form', 'form', ('kind', 0), ('kind', 1), ('kind', 1)]
"""

EXAMPLES_C3 = """
    >>> sum_of(pay, ((0, 1, 1), (1, 2))), ends(pay), looks(pay)
    (40, (-40, 75), (-40, -35, -20, 10, 25, 45, 70, 75))
    >>> odd, coins = (((0, 50), 2), ((0, 5), 2)), (((0, 20), 6),)
    >>> looks(odd), looks(coins), looks(()), looks((((0, 7), 10 ** 30),)) == (0, 7, 7 * 10 ** 30 - 7, 7 * 10 ** 30)
    ((0, 5, 50, 60, 105, 110), (0, 20, 100, 120), (0,), True)
"""


class ExamplesTest(ExampleCase):
    def test_examples(self):
        self.assertEqual(self.run_examples(EXAMPLES_C2 + EXAMPLES_C3, {}), 8)


class BagErrorTest(CallCase):
    def test_bags(self):
        for bag in small_bags() + great_bags() + [(((-GREAT, 0, GREAT), 1),), ((WIDE, 1),), PAY * 6]:
            self.assertCall(None, bag_error, value=bag)
        self.assertEqual(len(WIDE), 40)

    def test_form(self):
        for value in (PAY * 6 + PAY[:1], PAY * 7, (None,) * 13, [], [PAY[0]], list(PAY), {}, None, "", 0, True, "bag"):
            self.assertCall("form", bag_error, value=value)

    def test_any_value(self):
        for value in any_values():
            if not isinstance(value, tuple) or len(value) > 12:
                self.assertCall("form", bag_error, value=value)
            else:
                self.assertCall(("kind", 0), bag_error, value=value)

    def bad_kind(self, kind):
        self.assertCall(("kind", 0), bag_error, value=(kind,))
        self.assertCall(("kind", 2), bag_error, value=PAY + (kind, kind))
        self.assertCall(("kind", 11), bag_error, value=PAY[:1] * 11 + (kind,))

    def test_kinds(self):
        for kind in (
            ((0, 5),), ((0, 5), 3, 1), ((0, 5), 3, None), [(0, 5), 3], (3, (0, 5)), (), (0, 5), ((), ()), "ab", None, 7,
            {(0, 5): 3, 1: 2}, True, ((0, 5), (3,)),
        ):
            self.bad_kind(kind)

    def test_items(self):
        for item in (
            (), (5, 0), (0, 0), (0, 5, 5), (-5, -5, 0), (0, 3, 2), (0, -1), (1, 5), (5,), (-5, 5), (-5, -1),
            (0, GREAT + 1), (-GREAT - 1, 0), (0, 10 ** 399), WIDE[:1] + (-19,) + WIDE[1:], tuple(range(41)),
            [0, 5], [0], {0: 1}, {0: 5}, "05", None, 0, True, (True,), (False,), (False, 5), (0, True), (-1, False, 1),
            (-1, False, 0), (0, False), (None,), (0, None), (None, 0), (0, "5"), ("0",), (0, (5,)), ((0,),), ([0],), (0, [5]),
        ):
            self.bad_kind((item, 3))

    def test_counts(self):
        for many in (0, -1, -MANY, MANY + 1, 10 ** 399, True, False, None, "3", (3,), [3], {3: 3}):
            self.bad_kind(((0, 5), many))
        for many in (1, 2, MANY - 1, MANY):
            self.assertCall(None, bag_error, value=(((0, 5), many),))

    def test_any_value_for_a_part(self):
        for value in any_values():
            self.bad_kind(value)
            if value != (0,) and value != (0, 1, 2) or isinstance(value[0], bool):
                self.bad_kind((value, 3))
            if isinstance(value, bool) or not isinstance(value, int) or not 1 <= value <= MANY:
                self.bad_kind(((0, 5), value))
            if isinstance(value, bool) or not isinstance(value, int):
                self.bad_kind(((-5, 0, value), 3))


class ChoiceErrorTest(CallCase):
    def test_choices(self):
        for bag in small_bags():
            for choice in sorted({told(bag, row) for row in taken(bag)})[:50]:
                self.assertCall(None, choice_error, bag=bag, value=choice)
        for bag in great_bags():
            for place in (0, -1):
                choice = [[0] * len(item) for item, _ in bag]
                for row, (_, many) in zip(choice, bag):
                    row[place] = many
                self.assertCall(None, choice_error, bag=bag, value=tuple(tuple(row) for row in choice))

    def test_against_all_rows(self):
        bag = (((-1, 0, 2), 2), ((0, 3), 1))
        right = {told(bag, row) for row in taken(bag)}
        for row in itertools.product(range(-1, 4), repeat=3):
            for other in itertools.product(range(-1, 3), repeat=2):
                place = 0 if min(row) < 0 or sum(row) != 2 else 1
                expected = None if (row, other) in right else ("kind", place)
                self.assertCall(expected, choice_error, bag=bag, value=(row, other))

    def test_form(self):
        for value in (
            (), ((0, 1, 1),), ((0, 1, 1), (1, 2), (1, 2)), ((0, 1, 1), (1, 2), ()), [(0, 1, 1), (1, 2)], {}, None, "ab", 2,
            {(0, 1, 1): 0, (1, 2): 0},
        ):
            self.assertCall("form", choice_error, bag=PAY, value=value)
        self.assertCall("form", choice_error, bag=(), value=((),))
        self.assertCall("form", choice_error, bag=(), value=[])
        self.assertCall(None, choice_error, bag=(), value=())

    def test_rows(self):
        for row in (
            (), (2,), (0, 2), (0, 1, 1, 0), (0, 1, 2), (0, 1, 0), (0, 0, 0), (-1, 2, 1), (3, -1, 0), (0, True, True),
            (0, 1, True), (False, 1, 1), (False, False, 2), [0, 1, 1], {0: 0, 1: 1, 2: 1}, "011", None, 2, (0, None, 2),
            (0, "1", 1), (0, (1,), 1), (0, [1], 1), (0, 10 ** 399, 2), (-10 ** 399, 10 ** 399, 2),
        ):
            self.assertCall(("kind", 0), choice_error, bag=PAY, value=(row, (1, 2)))
            self.assertCall(("kind", 0), choice_error, bag=PAY, value=(row, None))
            self.assertCall(("kind", 1), choice_error, bag=PAY[::-1], value=((1, 2), row))

    def test_any_value(self):
        for value in any_values():
            form = not isinstance(value, tuple) or len(value) != 2
            self.assertCall("form" if form else ("kind", 0), choice_error, bag=PAY, value=value)
            self.assertCall(("kind", 0), choice_error, bag=PAY, value=(value, (1, 2)))
            if value != (5, 2):
                self.assertCall(("kind", 1), choice_error, bag=PAY, value=((0, 1, 1), value))
            if isinstance(value, bool) or not isinstance(value, int):
                self.assertCall(("kind", 1), choice_error, bag=PAY, value=((0, 1, 1), (2, value)))


class SumsTest(CallCase):
    def test_sums_against_all_choices(self):
        for bag in small_bags():
            rows = taken(bag)
            for row in rows[::1 + len(rows) // 40]:
                self.assertCall(sum(row), sum_of, bag=bag, choice=told(bag, row))
            sums = [sum(row) for row in rows]
            self.assertCall((min(sums), max(sums)), ends, bag=bag)

    def test_looks_against_all_choices(self):
        for bag in small_bags():
            rows = taken(bag)
            best = [item[-1] for item, many in bag for _ in range(many)]
            worst = [item[0] for item, many in bag for _ in range(many)]
            seen = {sum(row) for row in rows for end in (best, worst) if self.unlike(row, end) <= 1}
            self.assertCall(tuple(sorted(seen)), looks, bag=bag)

    def unlike(self, row, other):
        return sum(one != two for one, two in zip(row, other))

    def test_great(self):
        for bag in great_bags():
            least, greatest = self.called(ends, bag=bag)
            self.assertEqual(least, sum(item[0] * many for item, many in bag))
            self.assertEqual(greatest, sum(item[-1] * many for item, many in bag))
            self.assertCall(greatest, sum_of, bag=bag, choice=self.at(bag, -1, -1))
            self.assertCall(least, sum_of, bag=bag, choice=self.at(bag, 0, 0))
            sums = {least, greatest}
            for place, end in itertools.product(range(40), (0, -1)):
                for kind in range(len(bag)):
                    if place < len(bag[kind][0]):
                        sums.add(sum_of(bag, self.at(bag, end, end, kind, place)))
            self.assertCall(tuple(sorted(sums)), looks, bag=bag)

    def at(self, bag, first, end, kind=None, place=None):
        """The choice at an end, with one item of this kind at another place."""
        choice = []
        for at, (item, many) in enumerate(bag):
            row = [0] * len(item)
            row[end] = many
            if at == kind:
                row[end] -= 1
                row[place] += 1
            choice.append(tuple(row))
        return tuple(choice)

    def test_told_values(self):
        self.assertCall(0, sum_of, bag=(), choice=())
        self.assertCall((0, 0), ends, bag=())
        self.assertCall((0,), looks, bag=())
        self.assertCall((0,), looks, bag=(((0,), MANY),) * 12)
        self.assertCall((0, 3), looks, bag=(((0, 3), 1),))
        self.assertCall((0, 3, 6), looks, bag=(((0, 3), 2),))
        self.assertCall((-3, 0), looks, bag=(((-3, 0), 1),))
        self.assertCall((-3, 0, 4), looks, bag=(((-3, 0, 4), 1),))
        self.assertCall((-3, 0, 1, 4), looks, bag=(((-3, 0), 1), ((0, 4), 1)))


if __name__ == "__main__":
    unittest.main()
