import itertools
import random
import unittest

from everyexact.bags import bag_error, choice_error, looks, sum_of
from everyexact.exactness import exact, is_loose, loose
from everyexact.scales import scale_error
from tests.calling import CallCase, ExampleCase
from tests.samples import (
    GREAT, MANY, PAY, TENS, WIDE, all_sums, any_values, bags_to_five, great_bags, great_scales, near_scales, plainly_exact,
    plainly_fits, small_bags, small_scales, taken, told, turned_bag,
)

EXAMPLES_C4 = """
    >>> from everyexact.exactness import exact, is_loose, loose
    >>> tens, twos = ((99, 10), (999, 100), (9999, 0)), ((3, 2), (7, 0))
    >>> exact(tens, pay), exact(tens, odd), exact(tens, coins), exact(tens, coins + (((0, 5), 1),)), exact(tens, ())
    (True, False, True, False, True)
    >>> loose(tens, pay), is_loose(tens, odd, loose(tens, odd)), [is_loose(tens, odd, value) for value in (((0, 2), (1, 1)), ((0, 2), (0, 2)), ((0, 2), (1, True)), [(0, 2), (1, 1)])]
    (None, True, [True, False, False, False])
    >>> exact(twos, (((0, 3), 2),)), exact(twos, (((0, 1), 1), ((0, 3), 2))), exact((), (((0, 10 ** 30), 10 ** 30),)), exact(tens, (((-20, 0, 20), 6),))
    (True, False, True, True)
"""

ODD = (((0, 50), 2), ((0, 5), 2))
COINS = (((0, 20), 6),)


def forty_rules(rules):
    """Scales of forty rules that let the same integers as rules: the others ask what is asked already, or nothing."""
    more = [(GREAT, step) for _, step in rules] + list(rules) + [(GREAT, 2)]
    return tuple(rules) + tuple(itertools.islice(itertools.cycle(more), 40 - len(rules)))


class ExamplesTest(ExampleCase):
    def test_examples(self):
        self.assertEqual(self.run_examples(EXAMPLES_C4, {"pay": PAY, "odd": ODD, "coins": COINS}), 5)


class ExactCase(CallCase):
    def check(self, scale, bag, expected):
        self.assertIs(exact(scale, bag), expected, (scale, bag))
        choice = loose(scale, bag)
        if expected:
            self.assertIsNone(choice)
        else:
            self.assertIsNone(choice_error(bag, choice))
            self.assertFalse(plainly_fits(scale, sum_of(bag, choice)))
            self.assertIs(is_loose(scale, bag, choice), True)

    def check_called(self, scale, bag, expected):
        self.check(scale, bag, expected)
        self.assertCall(expected, exact, scale=scale, bag=bag)
        choice = self.called(loose, scale=scale, bag=bag)
        self.assertCall(not expected, is_loose, scale=scale, bag=bag, value=choice)


class AgainstAllChoicesTest(ExactCase):
    def test_at_the_greatest_sums_that_steps_do_not_divide(self):
        told_both = set()
        for bag in bags_to_five():
            sums = all_sums(bag)
            for scale in near_scales(sums):
                expected = all(plainly_fits(scale, total) for total in sums)
                told_both.add(expected)
                self.check(scale, bag, expected)
        self.assertEqual(told_both, {True, False})

    def test_small_scales(self):
        source = random.Random(37)
        scales = small_scales()
        for bag in bags_to_five():
            sums = all_sums(bag)
            for scale in source.sample(scales, 40):
                self.check(scale, bag, all(plainly_fits(scale, total) for total in sums))

    def test_forty_rules(self):
        source = random.Random(41)
        for bag in bags_to_five():
            sums = all_sums(bag)
            scale = source.choice(near_scales(sums))
            expected = all(plainly_fits(scale, total) for total in sums)
            self.check(forty_rules(scale), bag, expected)
            self.check(forty_rules(scale)[::-1], bag, expected)
        self.assertEqual({scale_error(forty_rules(scale)) for scale in near_scales({1, 7, 12})}, {None})

    def test_step_nought_at_each_place(self):
        rules = ((3, 2), (7, 4), (11, 12))
        for bag in bags_to_five()[::3]:
            sums = all_sums(bag)
            for place, bound in itertools.product(range(4), range(0, 20, 3)):
                scale = rules[:place] + ((bound, 0),) + rules[place:]
                self.check(scale, bag, all(plainly_fits(scale, total) for total in sums))

    def test_more_items_than_looks_differ_in(self):
        # Sums three items and more off both ends are looked at by none of the looks.
        for item in ((0, 1), (-1, 0), (-2, 0, 1), (0, 2, 3), (-3, -1, 0, 4), (0, 6, 10, 15)):
            for many in (3, 5, 8):
                bag = ((item, many),)
                for scale in near_scales(all_sums(bag)):
                    self.check(scale, bag, plainly_exact(scale, bag))


class CallsTest(ExactCase):
    def test_calls(self):
        for scale, bag, expected in (
            (TENS, PAY, True), (TENS, ODD, False), (TENS, COINS, True), ((), (), True), (((0, 0),), (), True),
            (((0, 0),), (((0,), MANY),), True), (((0, 0),), (((0, 1), 1),), False), (((0, 0),), (((-1, 0), 1),), False),
            ((), (((-GREAT, 0, GREAT), MANY),), True), (((0, 2),), (((-2, 0, 4), MANY),) * 12, True),
            (((0, 2),), (((-2, 0, 4), MANY),) * 11 + (((-2, 0, 3), MANY),), False),
        ):
            self.check_called(scale, bag, expected)

    def test_told_choices(self):
        self.assertCall(None, loose, scale=TENS, bag=())
        self.assertCall(((0, 1),), loose, scale=((4, 0),), bag=(((0, 5), 1),))
        self.assertCall(((1, 0),), loose, scale=((4, 0),), bag=(((-5, 0), 1),))
        self.assertCall(((0, 1, 0),), loose, scale=((4, 3),), bag=(((0, 5, 6), 1),))


class GreatBagsTest(ExactCase):
    def test_all_of_one_step(self):
        """Sums of multiples of a step fit at any height; one value off it is as high as the greatest sum less its lack."""
        step = 10 ** 20
        item = tuple(k * step for k in range(-19, 21))
        bag = ((item, MANY),) * 12
        self.assertEqual((len(item), bag_error(bag)), (40, None))
        self.check_called(((0, step),), bag, True)
        self.check_called(forty_rules(((0, step),)), bag, True)
        for off in (1, 7, step - 1, step // 2):
            values = item[:-1] + (item[-1] - off,) + item[-1:]
            other = bag[:5] + ((values[1:], MANY),) + bag[6:]
            top = 12 * MANY * item[-1] - off
            self.check_called(((top, step),), other, True)
            self.check_called(((top - 1, step),), other, False)
            self.check_called(((top + 1, step),), other, True)
            self.check_called(((0, 0), (top, step)), other, False)

    def test_off_from_below(self):
        step = 10 ** 20
        item = tuple(k * step for k in range(-20, 20))
        bag = ((item, MANY),) * 11
        for off in (1, step - 1):
            values = item[:1] + (item[0] + off,) + item[1:-1]
            low = 12 * MANY * item[0] + off
            for other in (bag + ((values, MANY),), ((values, MANY),) + bag):
                self.check_called(((-low, step),), other, True)
                self.check_called(((-low - 1, step),), other, False)

    def test_twelve_kinds_against_all_sums(self):
        source = random.Random(43)
        for _ in range(60):
            unit = source.choice((1, 2, 3, 4))
            kinds = []
            for _ in range(12):
                values = {unit * source.randrange(-3, 6) for _ in range(3)} | {0, source.choice((0, 0, 0, 1))}
                kinds.append((tuple(sorted(values)), source.randrange(1, 3)))
            sums = all_sums(kinds)
            for scale in near_scales(sums)[::3]:
                self.check(scale, tuple(kinds), all(plainly_fits(scale, total) for total in sums))

    def test_greatest_of_all(self):
        bags = [((WIDE, MANY),) * 12, tuple(((0, GREAT - k), MANY - k) for k in range(12))]
        for bag in bags + great_bags():
            self.check_called((), bag, True)
            total = max(abs(number) for number in looks(bag))
            self.check_called(((0, 0),), bag, total == 0)
            self.check_called(((GREAT, 0),), bag, total <= GREAT)
            for scale in great_scales()[:6]:
                expected = all(plainly_fits(scale, number) for number in looks(bag))
                self.check_called(scale, bag, expected)

    def test_one_item_of_many(self):
        # 10 ** 30 items of 10 ** 30: the greatest sum is the greatest bound.
        bag = (((0, 10 ** 30), MANY),)
        self.check_called(((GREAT, 0),), bag, True)
        self.check_called(((GREAT - 1, 0),), bag, False)
        self.check_called(((GREAT - 1, 10 ** 30),), bag, True)
        self.check_called(((GREAT - 10 ** 30 - 1, GREAT),), bag, False)
        self.check_called(((GREAT - 10 ** 30, GREAT),), bag, True)
        self.check_called(((GREAT - 10 ** 30, GREAT),), turned_bag(bag), True)
        self.check_called(((GREAT - 10 ** 30 - 1, GREAT),), turned_bag(bag), False)


class TurnedAboutTest(ExactCase):
    def cases(self):
        source = random.Random(47)
        for bag in bags_to_five():
            for scale in source.sample(near_scales(all_sums(bag)), 4):
                yield scale, bag
        for bag in great_bags():
            for scale in great_scales()[::4] + [((max(looks(bag)) % GREAT, 3),), ((0, 5),)]:
                yield scale, bag

    def test_rules_kinds_and_signs(self):
        source = random.Random(53)
        for scale, bag in self.cases():
            expected = exact(scale, bag)
            for rules in (scale[::-1], tuple(source.sample(scale, len(scale)))):
                self.check(rules, bag, expected)
            for kinds in (bag[::-1], tuple(source.sample(bag, len(bag))), turned_bag(bag)):
                self.check(scale, kinds, expected)

    def test_a_kind_in_two(self):
        parted = 0
        for scale, bag in self.cases():
            for place, (item, many) in enumerate(bag[:11] if len(bag) < 12 else ()):
                if many > 1:
                    two = ((item, 1), (item, many - 1))
                    self.check(scale, bag[:place] + two + bag[place + 1:], exact(scale, bag))
                    parted += 1
        self.assertGreater(parted, 500)

    def test_how_many_of_a_kind(self):
        self.check(((10, 0),), (((0, 5), 2),), True)
        self.check(((10, 0),), (((0, 5), 3),), False)
        self.check(((10, 5),), (((0, 5), MANY),), True)


class LeftOutTest(ExactCase):
    """[C6]: what holds of bags of which items or values go, and of two scales."""

    def lesser(self, bag):
        for place, (item, many) in enumerate(bag):
            ahead, behind = bag[:place], bag[place + 1:]
            yield ahead + behind
            for fewer in {1, many // 2, many - 1} - {0, many}:
                yield ahead + ((item, fewer),) + behind
            for value in item:
                if value != 0:
                    yield ahead + ((tuple(other for other in item if other != value), many),) + behind

    def test_lesser_bags_stay_exact(self):
        stayed = 0
        bags = [((tuple(k * 6 for k in range(-19, 21)), MANY),) * 12, (((-12, 0, 6, 60), MANY), ((0, 30), 7))]
        for bag in bags_to_five() + bags:
            scales = near_scales(all_sums(bag)) if bag not in bags else [((0, 6),), ((5, 2), (7, 3)), ((0, 6), (4, 3))]
            for scale in scales[::3]:
                if exact(scale, bag):
                    for other in self.lesser(bag):
                        self.check(scale, other, True)
                        stayed += 1
        self.assertGreater(stayed, 3000)

    def test_two_scales(self):
        source = random.Random(59)
        for bag in bags_to_five():
            scales = near_scales(all_sums(bag))
            for _ in range(12):
                one, other = source.choice(scales), source.choice(scales)
                self.check(one + other, bag, exact(one, bag) and exact(other, bag))

    def test_within_the_least_bound(self):
        for bag in bags_to_five():
            top = max(abs(total) for total in all_sums(bag))
            self.check(((top, 0), (top, 2), (top + 5, 3)), bag, True)
        # But that is not needed.
        self.check(TENS, COINS, True)

    def test_a_look_shows_it(self):
        for bag in bags_to_five():
            for scale in near_scales(all_sums(bag))[::2]:
                self.assertEqual(exact(scale, bag), all(plainly_fits(scale, total) for total in looks(bag)))


class IsLooseTest(CallCase):
    def test_all_choices(self):
        for bag in small_bags():
            choices = sorted({told(bag, row) for row in taken(bag)})
            for scale in near_scales(all_sums(bag))[::4]:
                for choice in choices[::1 + len(choices) // 30]:
                    expected = not plainly_fits(scale, sum_of(bag, choice))
                    self.assertIs(is_loose(scale, bag, choice), expected)
        self.assertCall(True, is_loose, scale=((0, 0),), bag=PAY, value=((0, 1, 1), (1, 2)))
        self.assertCall(False, is_loose, scale=TENS, bag=PAY, value=((0, 1, 1), (1, 2)))
        self.assertCall(False, is_loose, scale=((0, 0),), bag=(), value=())

    def test_no_choices(self):
        # By this scale each sum but 0 is loose, if it is one of a choice.
        nothing = ((0, 0),)
        self.assertCall(True, is_loose, scale=nothing, bag=ODD, value=((0, 2), (1, 1)))
        for value in (
            [(0, 2), (1, 1)], ([0, 2], (1, 1)), ((0, 2), [1, 1]), ((0, 2),), ((0, 2), (1, 1), ()), ((0, 2), (1, 1), (0, 2)),
            ((0, 2, 0), (1, 1)), ((2,), (1, 1)), ((0, 2), (1, True)), ((False, 2), (1, 1)), ((True, True), (True, True)),
            ((-1, 3), (1, 1)), ((3, -1), (1, 1)), ((0, 1), (1, 1)), ((0, 3), (1, 1)), ((0, 2), (1, 2)), ((0, 2), (0, 0)),
            ((0, "2"), (1, 1)), ((0, None), (1, 1)), ((0, (2,)), (1, 1)), ("02", "11"), {(0, 2): (1, 1)}, {}, (), None,
            ((0, 2), None), ((0, 2), ()), (((0, 2), (1, 1)),), ((-10 ** 399, 10 ** 399 + 2), (1, 1)),
        ):
            self.assertCall(False, is_loose, scale=nothing, bag=ODD, value=value)

    def test_any_value(self):
        nothing = ((0, 0),)
        for value in any_values():
            self.assertCall(False, is_loose, scale=nothing, bag=ODD, value=value)
            self.assertCall(False, is_loose, scale=nothing, bag=ODD, value=(value, (1, 1)))
            self.assertCall(False, is_loose, scale=nothing, bag=ODD, value=((0, 2), value))
            self.assertCall(False, is_loose, scale=(), bag=(), value=value)
            if type(value) is not int:
                self.assertCall(False, is_loose, scale=nothing, bag=ODD, value=((0, 2), (2, value)))

    def test_parts_of_what_was_returned_changed(self):
        for bag in (ODD, (((-5, 0), 7), ((0, 5), MANY)), ((WIDE, MANY),) * 12):
            scale = ((0, 0),)
            choice = loose(scale, bag)
            self.assertIs(is_loose(scale, bag, choice), True)
            row = choice[0]
            for other in (
                list(choice), choice[1:], choice + choice[:1], (list(row),) + choice[1:], (row[1:],) + choice[1:],
                (row + (0,),) + choice[1:], ((row[0] + 1,) + row[1:],) + choice[1:], (row[:-1] + (row[-1] - 1,),) + choice[1:],
                choice[:-1] + (None,), choice[:-1] + (choice,),
            ):
                self.assertCall(False, is_loose, scale=scale, bag=bag, value=other)


if __name__ == "__main__":
    unittest.main()
