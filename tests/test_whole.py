"""What the document promises over the whole program ([A2]), told by several modules together."""

import itertools
import random
import unittest

from everyexact.addends import bag_of, exact_numbers, numbers_error
from everyexact.bags import bag_error, choice_error, ends, looks
from everyexact.benches import Bench
from everyexact.bounds import MAX_RULES
from everyexact.checks import first_unfit, unfit_holds
from everyexact.errors import BadLog, BadText, ExactError, NoName, Unfit
from everyexact.exactness import exact, is_loose, loose
from everyexact.floats import float_scale
from everyexact.ladders import alike, ladder
from everyexact.logs import bench_behind, log_text, read_log
from everyexact.lots import few, fewest_lots, greatest_lots
from everyexact.orders import clean_order, clean_tree, longest_start, order_many
from everyexact.products import keepable, products_exact
from everyexact.programs import hulls, inputs_error, program_error, run
from everyexact.regroup import bad_regroup_holds, regroupable, spans_error, terms_error
from everyexact.room import copies, may_come
from everyexact.scales import fits, fitting_from, fitting_many, scale_error
from everyexact.scaletexts import read_scale, scale_text
from everyexact.shells import Shell
from everyexact.trees import is_clean, tree_error, unclean
from everyexact.widths import figures_of, greatest_many, least_cut, least_figures
from tests.bench_samples import BAGS, SCALES, random_benches, state
from tests.calling import CallCase
from tests.samples import (
    TENS, all_sums, all_trees, bags_to_five, few_numbers, great_scales, lots_of, near_scales, plainly_fits, small_scales,
)


def cases(most):
    """Numbers, and scales by which they are exact, nearly exact, and not."""
    source = random.Random(283)
    for numbers in few_numbers(most):
        sums = {sum(numbers[place] for place in lot) for lot in lots_of(len(numbers))}
        for scale in source.sample(near_scales(sums), 4) + source.sample(small_scales(), 2) + [TENS]:
            yield scale, numbers


class NumbersTest(unittest.TestCase):
    def test_exact_as_all_else_tells(self):
        """A bag of numbers is exact just as they are: then all orders and trees are clean, and one lot takes them up."""
        told = set()
        for scale, numbers in cases(5):
            expected = exact_numbers(scale, numbers)
            told.add(expected)
            bag = bag_of(numbers)
            self.assertIs(exact(scale, bag), expected)
            self.assertIs(loose(scale, bag) is None, expected)
            self.assertEqual(longest_start(scale, numbers) == len(numbers), expected)
            places = tuple(range(len(numbers)))
            self.assertEqual(greatest_lots(scale, numbers) == (places,), expected)
            self.check_terms(scale, numbers, expected)
            if numbers:
                self.assertIs(unclean(scale, numbers) is None, expected)
                self.check_trees_and_orders(scale, numbers, expected)
        self.assertEqual(told, {True, False})

    def check_trees_and_orders(self, scale, numbers, expected):
        many = len(numbers)
        if many <= 4:
            clean = [is_clean(scale, numbers, tree) for tree in all_trees(tuple(range(many)))]
            self.assertEqual(all(clean), expected)
            self.assertEqual(any(clean), clean_tree(scale, numbers) is not None)
        orders = len(list(itertools.permutations(range(many))))
        self.assertEqual(order_many(scale, numbers) == orders, expected)
        self.assertEqual(order_many(scale, numbers) > 0, clean_order(scale, numbers) is not None)
        if all(fits(scale, number) for number in numbers):
            self.assertEqual(few(scale, numbers) == 1, expected)
            self.assertEqual(len(fewest_lots(scale, numbers)), few(scale, numbers))

    def check_terms(self, scale, numbers, expected):
        """As terms over inputs of one integer, as a program of them, and as numbers that need not be cut."""
        spans = tuple((number, number, 1) for number in numbers)
        self.assertIs(regroupable(scale, spans, tuple((place, 1) for place in range(len(numbers)))), expected)
        self.assertEqual(least_cut(scale, 10, numbers) == 0, expected)
        if numbers:
            program = tuple(("is", number) for number in numbers)
            total = tuple(("sum", place if place == 0 else len(numbers) + place - 1, place + 1) for place in range(len(numbers) - 1))
            kept = first_unfit(scale, program + total) is None
            self.assertTrue(kept or not expected)
            self.assertEqual(run(program + total, ())[-1], sum(numbers))

    def test_what_comes_besides(self):
        for scale, numbers in cases(4):
            bag = bag_of(numbers)
            if exact(scale, bag):
                for number in (-7, 0, 3, 10, 60):
                    self.assertIs(may_come(scale, bag, number), exact_numbers(scale, numbers + (number,)))
                    if number != 0:
                        many = copies(scale, bag, number)
                        for some in range(5):
                            self.assertIs(exact_numbers(scale, numbers + (number,) * some), some <= many)
                        if bag == ():
                            self.assertEqual(many, greatest_many(scale, tuple(sorted((0, number)))))


class ScalesTest(unittest.TestCase):
    def test_a_scale_and_its_ladder_let_the_same(self):
        source = random.Random(293)
        for scale in source.sample(small_scales(), 150) + great_scales() + [TENS, ()]:
            rungs = ladder(scale)
            if len(rungs) > MAX_RULES:
                continue
            self.assertTrue(alike(scale, rungs))
            self.assertEqual(ladder(rungs), rungs)
            numbers = list(range(-40, 41)) + [bound + off for bound, _ in scale + rungs for off in (-1, 0, 1)]
            for number in numbers:
                self.assertIs(fits(scale, number), fits(rungs, number))
            for low, high in ((-40, 40), (-10 ** 60, 10 ** 60), (7, 10 ** 30)):
                self.assertEqual(fitting_many(scale, low, high), fitting_many(rungs, low, high))
            self.assertEqual(fitting_from(scale, 8), fitting_from(rungs, 8))
            self.assertEqual(read_scale(scale_text(rungs)), rungs)

    def test_bags_by_a_scale_and_its_ladder(self):
        source = random.Random(307)
        for bag in bags_to_five():
            for scale in source.sample(near_scales(all_sums(bag)), 3):
                self.assertIs(exact(scale, bag), exact(ladder(scale), bag))
                found = loose(scale, bag)
                self.assertIs(found is None or is_loose(ladder(scale), bag, found), True)


class FewLooksTest(unittest.TestCase):
    def test_a_few_sums_tell_all(self):
        source = random.Random(311)
        for bag in bags_to_five():
            sums = all_sums(bag)
            self.assertEqual(ends(bag), (min(sums), max(sums)))
            for scale in source.sample(near_scales(sums), 4):
                expected = all(plainly_fits(scale, total) for total in sums)
                self.assertIs(all(fits(scale, total) for total in looks(bag)), expected)
                self.assertIs(exact(scale, bag), expected)
            for base in (2, 10, 12):
                self.assertEqual(least_figures(base, bag), max([1] + [figures_of(base, total) for total in sums]))

    def test_figures_and_scales_of_floats(self):
        """What has few figures fits the scale of floats of so many, as long as that reaches; sums as well as products."""
        for bag in bags_to_five()[::3]:
            least = least_figures(10, bag)
            for figures in (1, 2, 3):
                self.assertIs(exact(float_scale(10, figures, 20), bag), least <= figures)
        for numbers in ((4, 25, 3), (4, 25, 7), (2, 3, 5), (40, 40), (7, -11)):
            for figures in (1, 2, 3):
                scale = float_scale(10, figures, 20)
                products = [1]
                for number in numbers:
                    products += [product * number for product in products]
                self.assertIs(products_exact(10, figures, numbers), all(fits(scale, product) for product in products))
                self.assertIs(products_exact(10, figures, numbers), all(keepable(10, figures, product) for product in products))

    def test_hulls_are_within_a_bound(self):
        program = (("in", -4, 5, 3), ("in", 0, 8, 4), ("less", 0, 1), ("times", 2, -3))
        top = max(max(-low, high) for low, high in hulls(program))
        self.assertIsNone(first_unfit(((top, 0),), program))
        self.assertEqual(first_unfit(((top - 1, 0),), program), 3)


class AnyValueTest(CallCase):
    def test_what_the_package_makes(self):
        """Benches, shells and errors are values as well: each function that takes any value tells what it tells of others."""
        bench = Bench()
        bench.keep("a", "scale", TENS)
        for thing in (bench, Bench(), Shell(), Unfit(), NoName(bench), BadLog([7])):
            for value in (thing, (thing,), [thing], (thing, thing), (thing, 0), (0, thing), ((thing, 0), 1), {"a": thing}, (thing,) * 40):
                self.check_errors(value)
                self.check_answers(value)

    def check_errors(self, value):
        form = not isinstance(value, tuple)
        self.assertCall("form" if form else ("rule", 0), scale_error, value=value)
        self.assertCall("form" if form or len(value) > 12 else ("kind", 0), bag_error, value=value)
        self.assertCall("form" if form or len(value) > 12 else ("span", 0), spans_error, value=value)
        self.assertCall("form" if form or len(value) > 30 else ("step", 0), program_error, value=value)
        self.assertCall("form" if form or len(value) > 24 else ("term", 0), terms_error, spans=((0, 9, 3),), value=value)
        self.assertCall("form", tree_error, many=3, value=value)
        self.assertFails(BadText(), read_scale, value=value)
        self.assertFails(BadLog(0), read_log, value=value)
        numbers = "form" if form else ("number", 1 if repr(value[0]) == "0" else 0)
        self.assertCall(numbers, numbers_error, value=value)

    def check_answers(self, value):
        pay = (((-20, 0, 30), 2), ((0, 5), 3))
        self.assertIsNotNone(self.called(choice_error, bag=pay, value=value))
        self.assertIsNotNone(self.called(inputs_error, program=(("in", 0, 9, 3), ("in", 0, 9, 3)), value=value))
        self.assertCall(False, is_loose, scale=TENS, bag=pay, value=value)
        self.assertCall(False, unfit_holds, scale=TENS, program=(("is", 105),), value=value)
        self.assertCall(False, bad_regroup_holds, scale=TENS, spans=((105, 105, 1),), terms=((0, 1),), value=value)


class BenchesTest(unittest.TestCase):
    def lines(self, edit):
        """What a shell is told in the place of this edit; None if it can't be told so."""
        word, name, *told = edit
        if word == "keep":
            sort, value = told
            if sort == "scale":
                return [f"scale {name} {scale_text(value)}"]
            return [f"bag {name}"] + [self.kind_line(name, item, many) for item, many in value]
        if word == "kind_put":
            return [self.kind_line(name, *told)]
        if word == "rule_put":
            return [f"rule {name} {told[0][0]} {told[0][1]}"]
        return [{"drop": "drop", "rule_taken": "unrule", "kind_taken": "unkind"}[word] + " " + name]

    def kind_line(self, name, item, many):
        return f"kind {name} {many} {','.join(map(str, item))}"

    def test_a_bench_its_log_and_a_shell_tell_the_same(self):
        checked = 0
        for bench in random_benches():
            behind = bench_behind(read_log(log_text(bench.log)))
            self.assertTrue(bench == behind)
            shell = Shell()
            parts = [part for edit in bench.log for part in (edit[1] if edit[0] == "batch" else (edit,))]
            answers = [shell.say(line) for part in parts for line in self.lines(part)]
            # A shell may need more edits than a bench, as it has no batches.
            if "error TooManyEdits" not in answers:
                self.assertEqual(answers, [f"version {version}" for version in range(1, len(answers) + 1)])
                self.check_asks(bench, behind, shell)
                checked += 1
        self.assertGreater(checked, 10)

    def check_asks(self, bench, behind, shell):
        self.assertEqual(shell.say("names"), " ".join(bench) or "none")
        for name in bench:
            sort, value = bench[name]
            self.assertEqual(behind[name], (sort, value))
            if sort == "scale":
                self.assertEqual(shell.say(f"show {name}"), "scale " + scale_text(value))
                self.assertEqual(shell.say(f"ladder {name}"), scale_text(ladder(value)) or "none")
                self.assertEqual(bench.ladder_of(name), behind.ladder_of(name))
            else:
                self.assertEqual(shell.say(f"looks {name}"), " ".join(map(str, looks(value))))
            for other in bench:
                told = self.asked(bench, name, other)
                self.assertEqual(told, self.asked(behind, name, other))
                self.assertEqual(told, shell.say(f"exact {name} {other}"))
        self.assertEqual(str(bench.made), shell.say("made"))
        self.assertEqual(bench.made, behind.made)

    def asked(self, bench, name, other):
        try:
            return "yes" if bench.exact_of(name, other) else "no"
        except ExactError as error:
            return "error " + type(error).__name__

    def test_edits_taken_back(self):
        """A bench whose edits are taken back has the shelf, the version and the log that it had ahead of them."""
        for bench in random_benches(20):
            rows = []
            while bench.version > 0:
                rows.append((bench.shelf, bench.version, bench.log))
                bench.undo()
            for row in rows[::-1]:
                bench.redo()
                self.assertEqual(repr((bench.shelf, bench.version, bench.log)), repr(row))

    def test_asks_hang_on_the_things(self):
        for scale, bag in itertools.product(SCALES, BAGS):
            bench = Bench()
            bench.keep("a", "bag", bag)
            bench.keep("b", "scale", scale)
            bench.batch((("drop", "a"), ("drop", "b"), ("keep", "b", "bag", bag), ("keep", "a", "scale", scale)))
            self.assertIs(bench.exact_of("a", "b"), exact(scale, bag))
            self.assertEqual(bench.ladder_of("a"), ladder(scale))
            ahead = repr(state(bench))
            self.assertEqual(repr(state(bench.copy())), ahead)


if __name__ == "__main__":
    unittest.main()
