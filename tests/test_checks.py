import itertools
import math
import random
import time
import unittest

from everyexact.checks import first_unfit, unfit_holds, unfit_inputs
from everyexact.programs import hulls, inputs_error, program_error
from everyexact.scales import scale_error
from tests.calling import CallCase, ExampleCase
from tests.plain_programs import BACK, PROGRAM, all_inputs, held, plain_values, small_programs
from tests.samples import GREAT, TENS, any_values, great_scales, plainly_fits, scales_for_sums, to_forty

EXAMPLES_H4 = """
    >>> from everyexact.checks import first_unfit, unfit_holds, unfit_inputs
    >>> tens = ((99, 10), (999, 100), (9999, 0))
    >>> first_unfit(tens, program), first_unfit(tens, back), first_unfit(tens, program[:4]), unfit_inputs(tens, program[:4])
    (4, 2, None, None)
    >>> [unfit_holds(tens, program, value) for value in (unfit_inputs(tens, program), (4, (90, -5)), (4, (50, -1)), (4, (90, 0)), (2, (90, 5)), (4, (95, -5)), (4, [90, -5]), (True, (90, -5)), None)]
    [True, True, True, False, False, False, False, False, False]
    >>> first_unfit(tens, (("in", 0, 900, 100), ("in", 0, 90, 10), ("sum", 0, 1))), first_unfit(tens, (("in", 0, 900, 100), ("in", 0, 90, 5), ("sum", 0, 1)))
    (None, 2)
"""

FACTOR = 10 ** 20


class ExamplesTest(ExampleCase):
    def test_examples(self):
        self.assertEqual(self.run_examples(EXAMPLES_H4, {"program": PROGRAM, "back": BACK}), 5)


class ProgramCase(CallCase):
    def check_told(self, scale, program, expected):
        """first_unfit is expected, and unfit_inputs a pair that shows it, or None."""
        self.assertEqual(repr(first_unfit(scale, program)), repr(expected))
        pair = unfit_inputs(scale, program)
        if expected is None:
            self.assertIsNone(pair)
        else:
            self.check_pair(scale, program, pair)

    def check_pair(self, scale, program, pair):
        self.assertIs(type(pair), tuple)
        place, inputs = pair
        self.assertIs(type(place), int)
        self.assertIsNone(inputs_error(program, inputs))
        self.assertFalse(plainly_fits(scale, plain_values(program, inputs)[place]))
        self.assertEqual(repr(unfit_inputs(scale, program)), repr(pair))
        self.assertIs(unfit_holds(scale, program, pair), True)

    def check_calls(self, scale, program, expected):
        self.check_told(scale, program, expected)
        self.assertCall(expected, first_unfit, scale=scale, program=program)
        pair = self.called(unfit_inputs, scale=scale, program=program)
        self.assertCall(expected is not None, unfit_holds, scale=scale, program=program, value=pair)


class SmallTest(ProgramCase):
    def test_against_all_inputs(self):
        source = random.Random(163)
        told = []
        for program in small_programs():
            rows = [plain_values(program, inputs) for inputs in all_inputs(program)]
            columns = [set(values) for values in zip(*rows)]
            for place in {0, len(program) // 2, len(program) - 1}:
                for scale in scales_for_sums(columns[place], source, 6) + [TENS]:
                    self.assertIsNone(scale_error(scale))
                    wrong = [at for at, column in enumerate(columns) if not all(plainly_fits(scale, value) for value in column)]
                    self.check_told(scale, program, min(wrong, default=None))
                    told.append((len(program), bool(wrong), len(scale)))
        # Programs of all lengths that are kept and that are not, by scales of all lengths.
        self.assertEqual({(many, kept) for many, kept, _ in told}, set(itertools.product(range(1, 10), (True, False))))
        self.assertLessEqual({0, 1, 2, 3, 40}, {many for _, _, many in told})

    def test_unfit_holds_for_all_inputs(self):
        source = random.Random(167)
        for program in source.sample(small_programs(), 40):
            inputs = source.sample(all_inputs(program), min(12, len(all_inputs(program))))
            values = {value for one in inputs for value in plain_values(program, one)}
            for scale in scales_for_sums(values, source, 2):
                for one in inputs:
                    for place, value in enumerate(plain_values(program, one)):
                        self.assertIs(unfit_holds(scale, program, (place, one)), not plainly_fits(scale, value))

    def test_just_at_the_ends(self):
        """Bounds at a step's greatest absolute value, and one less, where no multiple helps; the rule stands anywhere."""
        for program in small_programs():
            for place, (least, greatest) in enumerate(hulls(program)):
                top = max(-least, greatest)
                ahead = max([max(-low, high) for low, high in hulls(program)[:place]], default=0)
                if top == 0 or ahead >= top:
                    continue
                for at in (0, 1, 2):
                    others = ((top, 2), (top, 3))
                    kept, short = [others[:at] + ((bound, 0),) + others[at:] for bound in (top, top - 1)]
                    self.check_told(kept, program[:place + 1], None)
                    self.check_told(short, program, place)
                for kept, short in zip(to_forty(((top, 0),), top), to_forty(((top - 1, 0),), top)):
                    self.check_told(kept, program[:place + 1], None)
                    self.check_told(short, program, place)

    def test_one_stride_off_the_ends(self):
        """Both ends fit, but what one stride of one input makes of them does not."""
        for coefficient, low, many, stride in itertools.product((1, -1, 3, -3), (-12, 0, 12), (1, 2, 5), (1, 2, 3)):
            program = (("in", low, low + many * stride, stride), ("in", -6, 6, 6), ("times", 0, coefficient), ("sum", 1, 2))
            for scale in (((0, 2),), ((5, 6),), ((9, 4),), ((20, 3), (7, 2)), ((0, 6), (100, 0))):
                columns = list(zip(*[plain_values(program, inputs) for inputs in all_inputs(program)]))
                wrong = [at for at, column in enumerate(columns) if not all(plainly_fits(scale, value) for value in column)]
                self.check_told(scale, program, min(wrong, default=None))

    def test_added_and_taken_off_again(self):
        program = (("in", 0, 7, 1), ("in", 0, 10 ** 9, 1), ("sum", 0, 1), ("less", 2, 1), ("times", 3, 10))
        self.check_calls(((99, 10), (10 ** 9 - 1, 0)), program, 1)
        self.check_calls(((7, 10), (10 ** 9, 0)), program, 1)
        even = (("in", 0, 8, 2), ("in", 0, 10 ** 9, 2), ("sum", 0, 1), ("less", 2, 1), ("times", 3, 10))
        # The sums are even; what is left of them, and its multiples, are more.
        self.check_calls(((0, 2),), even, None)
        self.check_calls(((10, 2), (10 ** 9 + 8, 0)), even, None)
        self.check_calls(((10, 2), (10 ** 9 + 7, 0)), even, 2)
        # At the last step only the first input is left: 80 and 60 fit, whatever the other one may be.
        self.check_calls(((10 ** 9 + 8, 3),), even, None)
        last = (("in", 0, 7, 7), ("in", 0, 10, 10), ("times", 1, 0), ("sum", 0, 2))
        self.check_calls(((0, 5), (10, 7)), last, 0)
        self.check_calls(((7, 10),), last, None)

    def test_inputs_of_one_integer(self):
        program = (("in", 5, 5, 7), ("in", -3, -3, 1), ("sum", 0, 1), ("times", 0, 20), ("less", 3, 2))
        # 5, -3, 2, 100 and 98: nothing else comes up, so no stride counts.
        self.check_calls(((5, 2), (99, 100)), program, None)
        self.check_calls(((5, 2), (97, 100)), program, 4)
        self.check_calls(((4, 2),), program, 0)
        self.check_calls(((2, 5),), program, 1)
        self.check_calls(((5, 0),), program, 3)

    def test_coefficients_below_0(self):
        program = (("in", 0, 30, 10), ("in", 0, 30, 5), ("less", 0, 1), ("less", 1, 0), ("times", 3, -2))
        self.check_calls(((30, 5),), program, None)
        self.check_calls(((30, 5), (60, 0)), program, None)
        self.check_calls(((30, 5), (59, 0)), program, 4)
        self.check_calls(((50, 20),), program, None)
        self.check_calls(((49, 20),), program, 4)
        self.check_calls(((29, 10),), program, None)
        self.check_calls(((24, 10),), program, 1)

    def test_without_inputs(self):
        program = (("is", 60), ("times", 0, 2), ("less", 1, 0), ("sum", 1, 2), ("is", -7))
        self.check_calls(((60, 9),), program, 1)
        self.check_calls(((7, 20),), program, None)
        self.check_calls(((6, 20),), program, 4)
        self.assertCall((4, ()), unfit_inputs, scale=((6, 20),), program=program)

    def test_one_step(self):
        for step, scale, expected in (
            (("is", 7), ((7, 0),), None), (("is", 7), ((6, 0),), 0), (("is", -7), ((6, 7),), None), (("is", -8), ((6, 7),), 0),
            (("in", -8, 8, 4), ((0, 4),), None), (("in", -8, 8, 4), ((4, 8),), None), (("in", -8, 8, 4), ((3, 8),), 0),
            (("in", -8, 8, 4), ((0, 8),), 0), (("in", -8, 8, 16), ((0, 8),), None), (("in", 1, 9, 4), ((8, 9),), None),
            (("in", 1, 9, 4), ((8, 0),), 0), (("in", -9, -1, 4), ((8, 3),), None), (("in", -9, -1, 4), ((4, 3),), 0),
            (("in", -9, -1, 4), ((0, 3),), 0), (("in", -1, 9, 5), ((8, 3),), None), (("in", -9, 1, 5), ((3, 3),), 0),
        ):
            self.check_calls(scale, (step,), expected)


class GreatTest(ProgramCase):
    """Programs of thirty steps over twelve inputs, of more inputs than can be gone through."""

    def setUp(self):
        self.began = time.process_time()

    def tearDown(self):
        self.assertLess(time.process_time() - self.began, 20)

    def great(self, step, stride_off=None, number_off=0, factors=True):
        """Inputs of both signs and numbers that are multiples of step, and sums, differences and multiples of them."""
        rows = []
        for k in range(12):
            stride = step * (k + 1) + (1 if k == stride_off else 0)
            rows.append(("in", -k * 10 ** 6 * stride, 10 ** 9 * stride, stride))
        rows.append(("is", 10 ** 9 * step + number_off))
        for k in range(8):
            rows.append((("sum", "less")[k % 2], 12 + k, k + 4))
        for k in range(9):
            rows.append(("times", 12 + k, -k - 2) if factors else ("less", 20 + k, k))
        self.assertEqual(len(rows), 30)
        program = tuple(rows)
        self.assertIsNone(program_error(program))
        return program

    def test_multiples(self):
        for step, scale in itertools.product((10, 7, 10 ** 20, 2 ** 40), (lambda step: ((0, step),), lambda step: ((step + 1, step), (5, step)))):
            for factors in (True, False):
                program = self.great(step, factors=factors)
                self.check_calls(scale(step), program, None)
                self.check_told(scale(step) + ((GREAT, 0),), program, None)
                self.check_told(to_forty(scale(step), GREAT - 50)[1], program, None)
                top = max(max(-low, high) for low, high in hulls(program))
                first = [max(-low, high) for low, high in hulls(program)].index(top)
                self.check_told(scale(step) + ((top, 0),), program, None)
                self.check_told(((top - 1, 0),) + scale(step), program, first)

    def test_one_thing_off(self):
        for step in (10, 10 ** 20):
            for factors in (True, False):
                self.check_calls(((0, step),), self.great(step, number_off=1, factors=factors), 12)
                self.check_told(((10 ** 9 * step + 1, step),), self.great(step, number_off=1, factors=factors), 13)
                for at in (1, 5, 11):
                    self.check_told(((0, step),), self.great(step, stride_off=at, factors=factors), at)
                    program = self.great(step, stride_off=at, factors=factors)
                    # Below the bound such an input is kept; the first sum with it that goes beyond is told.
                    bound = max(-program[at][1], program[at][2])
                    first = self.first_beyond(program, bound, step)
                    self.check_told(((bound, step),), program, first)

    def first_beyond(self, program, bound, step):
        """The first step with a value above bound, up or down, that has what is no multiple of step in it."""
        own = [{place} if row[0] == "in" and row[3] % step != 0 else set() for place, row in enumerate(program)]
        for place, row in enumerate(program):
            if row[0] in ("sum", "less", "times"):
                own[place] = own[row[1]] | (own[row[2]] if row[0] != "times" else set())
        tops = [max(-low, high) for low, high in hulls(program)]
        return min([place for place, top in enumerate(tops) if own[place] and top > bound], default=None)

    def test_constants(self):
        """All inputs come together with a constant: one off it, and all greater sums are no multiples any more."""
        inputs = tuple(("in", -GREAT + k * 10 ** 40, GREAT - 2 * k * 10 ** 40, 10 ** 40) for k in range(12))
        for constant, expected in ((0, None), (10 ** 40, None), (1, 14), (10 ** 39, 14), (-1, 14)):
            rows = inputs + (("is", constant),) + (("sum", 0, 1), ("sum", 13, 12)) + tuple(("sum", 14 + k, 2 + k) for k in range(10))
            program = rows + tuple(("times", 24, (-1) ** k * FACTOR) for k in range(5))
            self.assertEqual(len(program), 30)
            self.check_calls(((10 ** 41, 10 ** 40),), program, expected)
            self.check_told(((10 ** 41, 10 ** 40), (GREAT, 2), (GREAT - 10 ** 50, 5)), program, expected)

    def test_only_the_greatest_value_is_beyond(self):
        inputs = tuple(("in", 0, 10 ** (10 + k), 10 ** k) for k in range(12))
        program = inputs + (("sum", 0, 1),) + tuple(("sum", 12 + k, 2 + k) for k in range(10))
        top = sum(10 ** (10 + k) for k in range(12))
        for bound, expected in ((top, None), (top - 1, 22), (top - 2, 22)):
            self.check_calls(((bound, 0),), program, expected)
            self.check_calls(((bound, 3), (bound, 0)), program, expected)
        # top is a multiple of 10 ** 10, and each value that is one stride off it is 1 to 10 ** 11 less.
        for off, step, expected in ((1, 10 ** 10, None), (2, 10 ** 10, 22), (1, 10 ** 11, 22), (10, 2, 22), (1, 5, None)):
            self.check_told(((top - off, step),), program, expected)

    def test_scales_of_all_sorts(self):
        programs = [self.great(10 ** 20), self.great(2 ** 60 * 5 ** 20, stride_off=11), tuple(("in", k, k, 1) for k in range(1, 13))]
        for scale in great_scales() + [(), ((0, 0),), ((GREAT, 0),)]:
            for program in programs:
                found = first_unfit(scale, program)
                self.check_told(scale, program, found)
                for place, (low, high) in enumerate(hulls(program)[:found]):
                    self.assertTrue(plainly_fits(scale, low) and plainly_fits(scale, high), place)

    def test_far_beyond(self):
        program = (("in", -GREAT, GREAT, GREAT), ("is", GREAT)) + tuple(("times", place, -FACTOR) for place in range(28))
        self.check_calls(((0, GREAT),), program, None)
        self.check_calls((), program, None)
        self.check_calls(((GREAT, 0),), program, 2)
        self.check_calls(((0, 2),), program, None)
        self.check_calls(((0, 3),), program, 0)
        common = math.gcd(GREAT, 6 ** 60)
        self.check_calls(((5, common), (0, 2)), program, None)


class UnfitHoldsTest(CallCase):
    def test_wrong_places(self):
        for place in (True, False, None, "4", (4,), [4], -1, -5, 5, 6, 30, 10 ** 399, -10 ** 399, (), {}):
            self.assertCall(False, unfit_holds, scale=TENS, program=PROGRAM, value=(place, (90, -5)))
        self.assertCall(True, unfit_holds, scale=TENS, program=PROGRAM, value=(4, (90, -5)))
        one = (("in", 105, 107, 1), ("in", 5, 105, 100))
        for place, expected in ((0, True), (1, True), (True, False), (False, False), (-1, False), (-2, False), (2, False)):
            self.assertCall(expected, unfit_holds, scale=TENS, program=one, value=(place, (105, 105)))

    def test_wrong_inputs(self):
        for inputs in (
            (100, -5), (-10, -5), (95, -5), (90, -6), (90, 6), (90,), (90, -5, 0), (), [90, -5], {90: -5}, None, 90, "90", (90, None),
            (90, True), ("90", -5), ((90, -5),), ([90], -5), (90, [-5]), (10 ** 399, -5), (90, -10 ** 399), (True, -5), (90, -5, None),
        ):
            self.assertCall(False, unfit_holds, scale=TENS, program=PROGRAM, value=(4, inputs))

    def test_values_that_fit(self):
        for place, inputs in itertools.product(range(5), itertools.product(held(0, 90, 10), held(-5, 5, 1))):
            value = plain_values(PROGRAM, inputs)[place]
            self.assertIs(unfit_holds(TENS, PROGRAM, (place, inputs)), not plainly_fits(TENS, value))

    def test_wrong_pairs(self):
        for value in (
            [4, (90, -5)], (4, (90, -5), 0), (4,), (4, 90, -5), ((90, -5), 4), {4: (90, -5)}, ((4, (90, -5)),), (4, ((90, -5),)), 4,
            (90, -5), (4, None), ([4], (90, -5)), ([4, (90, -5)],),
        ):
            self.assertCall(False, unfit_holds, scale=TENS, program=PROGRAM, value=value)

    def test_any_value(self):
        for value in any_values():
            self.assertCall(False, unfit_holds, scale=TENS, program=PROGRAM, value=value)
            self.assertCall(False, unfit_holds, scale=TENS, program=PROGRAM, value=(4, value))
            if type(value) is not int or abs(value) > 5:
                self.assertCall(False, unfit_holds, scale=TENS, program=PROGRAM, value=(4, (90, value)))
            if type(value) is not int or value != 0:
                self.assertCall(False, unfit_holds, scale=((0, 0),), program=(("is", 1), ("is", 0)), value=(value, ()))

    def test_without_inputs(self):
        self.assertCall(True, unfit_holds, scale=((6, 0),), program=(("is", 7),), value=(0, ()))
        for value in ((0, (7,)), (0, []), (0, None), (False, ()), (1, ()), (0,), ()):
            self.assertCall(False, unfit_holds, scale=((6, 0),), program=(("is", 7),), value=value)


class WhatHoldsTest(unittest.TestCase):
    def test_longer_programs(self):
        """What a beginning of a program tells is told of the whole, too."""
        source = random.Random(173)
        for program in small_programs():
            values = {value for inputs in all_inputs(program)[:50] for value in plain_values(program, inputs)}
            for scale in scales_for_sums(values, source, 2):
                found = first_unfit(scale, program)
                for many in range(1, len(program) + 1):
                    expected = found if found is not None and found < many else None
                    self.assertEqual(first_unfit(scale, program[:many]), expected)


if __name__ == "__main__":
    unittest.main()
