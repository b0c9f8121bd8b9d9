import itertools
import unittest

from everyexact.programs import forms, hulls, inputs_error, program_error, run
from tests.calling import CallCase, ExampleCase
from tests.plain_programs import PROGRAM, all_inputs, held, plain_values, small_programs
from tests.samples import GREAT, any_values

EXAMPLES_H2 = """
    >>> from everyexact.programs import forms, hulls, inputs_error, program_error, run
    >>> program = (("in", 0, 90, 10), ("in", -5, 5, 1), ("sum", 0, 1), ("times", 0, 3), ("less", 3, 2))
    >>> [program_error(value) for value in (program, (("is", 7),), (), [("is", 7)], program[2:], (("is", 7), ("sum", 0, 1)), (("in", 0, 9, 2),), (("in", 5, 5, 2),), (("times", 0, 2),))]
    [None, None, 'form', 'form', ('step', 0), ('step', 1), ('step', 0), None, ('step', 0)]
    >>> program_error((("in", 0, 1, 1),) * 13), program_error((("in", 0, 1, 1),) * 12), program_error((("is", True),)), program_error((("is", 1), ("times", 0, 10 ** 20 + 1)))
    ('inputs', None, ('step', 0), ('step', 1))
    >>> [inputs_error(program, value) for value in ((90, -5), (0, 0), (5, 0), (0, 6), (100, 0), (0,), [0, 0], (0, False))]
    [None, None, ('input', 0), ('input', 1), ('input', 0), 'form', 'form', ('input', 1)]
"""

EXAMPLES_H3 = """
    >>> run(program, (90, -5)), run(program, (20, 3))
    ((90, -5, 85, 270, 185), (20, 3, 23, 60, 37))
    >>> forms(program)
    ((0, (1, 0)), (0, (0, 1)), (0, (1, 1)), (0, (3, 0)), (0, (2, -1)))
    >>> hulls(program)
    ((0, 90), (-5, 5), (-5, 95), (0, 270), (-5, 185))
    >>> back = (("in", 0, 90, 1), ("in", 0, 900, 10), ("sum", 0, 1), ("less", 2, 1), ("is", 4), ("sum", 4, 4))
    >>> forms(back)[2:], hulls(back)[2:], run(back, (7, 250))
    (((0, (1, 1)), (0, (1, 0)), (4, (0, 0)), (8, (0, 0))), ((0, 990), (0, 90), (4, 4), (8, 8)), (7, 250, 257, 7, 4, 8))
"""

FACTOR = 10 ** 20

# For each word a step that is right at the places from 2 on, and its parts' bounds.
RIGHT = {
    "in": [("in", 0, 9, 3), ("in", -GREAT, GREAT, GREAT), ("in", GREAT, GREAT, 1), ("in", 5, 5, GREAT), ("in", -7, -3, 2),
           ("in", 0, GREAT, GREAT), ("in", 0, 9, 1), ("in", 0, 9, 9), ("in", -GREAT, -GREAT, GREAT)],
    "is": [("is", 0), ("is", -7), ("is", GREAT), ("is", -GREAT)],
    "sum": [("sum", 0, 1), ("sum", 1, 0), ("sum", 1, 1), ("sum", 0, 0)],
    "less": [("less", 0, 1), ("less", 1, 0), ("less", 1, 1), ("less", 0, 0)],
    "times": [("times", 0, 3), ("times", 1, -3), ("times", 0, 0), ("times", 1, FACTOR), ("times", 1, -FACTOR), ("times", 0, 1)],
}

WRONG = [
    ("in", 0, 9, 2), ("in", 0, 9, 10), ("in", 0, 9, 0), ("in", 5, 5, 0), ("in", 0, 9, -3), ("in", 9, 0, 3), ("in", 1, 0, 1),
    ("in", 0, GREAT + 1, 1), ("in", -GREAT - 1, 0, 1), ("in", 0, 0, GREAT + 1), ("in", 5, 5, 2 * GREAT), ("in", 0, 9),
    ("in", 0, 9, 3, 0), ("in", 0), ("in",), ("in", True, 9, 1), ("in", 0, True, 1), ("in", 0, 9, True), ("in", False, 0, 1),
    ("in", 0, False, 1), ("in", None, 9, 1), ("in", 0, "9", 1), ("in", 0, 9, None), ("in", [0], 9, 1), ("in", (0, 9, 1)),
    ("is",), ("is", GREAT + 1), ("is", -GREAT - 1), ("is", True), ("is", False), ("is", None), ("is", "7"), ("is", (7,)),
    ("is", [7]), ("is", 7, 7), ("is", 7, 0), ("is", 10 ** 399),
    ("sum", 0, 2), ("sum", 2, 0), ("sum", 2, 2), ("sum", 0, 3), ("sum", -1, 0), ("sum", 0, -1), ("sum", -2, -1), ("sum", 0),
    ("sum",), ("sum", 0, 1, 1), ("sum", 0, True), ("sum", False, 1), ("sum", 0, None), ("sum", "0", 1), ("sum", (0, 1)),
    ("sum", [0], [1]), ("sum", 0, 10 ** 399),
    ("less", 0, 2), ("less", 2, 0), ("less", 2, 2), ("less", -1, 0), ("less", 0, -1), ("less", 0), ("less",), ("less", 0, 1, 1),
    ("less", 0, True), ("less", False, 1), ("less", None, 0), ("less", (0,), 1),
    ("times", 2, 3), ("times", 3, 3), ("times", -1, 3), ("times", 0, FACTOR + 1), ("times", 0, -FACTOR - 1), ("times", 0, True),
    ("times", False, 3), ("times", 0), ("times",), ("times", 0, 3, 3), ("times", 0, None), ("times", 0, "3"), ("times", 0, [3]),
    ("times", 0, 10 ** 399),
    (), (0, 1), ("plus", 0, 1), ("In", 0, 9, 1), ("in ", 0, 9, 1), ("", 0, 1), (None, 0, 1), (("sum",), 0, 1), (["sum"], 0, 1),
    ({}, 0), (b"is", 7), (True, 7), "is", "in", "sum", ["is", 7], ["sum", 0, 1], {"is": 7}, None, 0, True, 7, ("sum", "sum", "sum"),
    ({"is": 7}, 7), ("SUM", 0, 1), ("minus", 0, 1), ("out", 0),
]


class ExamplesTest(ExampleCase):
    def test_examples(self):
        self.assertEqual(self.run_examples(EXAMPLES_H2 + EXAMPLES_H3, {}), 10)


class ProgramErrorTest(CallCase):
    def test_programs(self):
        for program in small_programs():
            self.assertCall(None, program_error, value=program)
        for steps in RIGHT.values():
            for step in steps:
                self.assertCall(None, program_error, value=(("is", 1), ("is", 2), step))
                self.assertCall(None, program_error, value=(("is", 1), ("is", 2), step) * 10 if step[0] != "in" else (step,))

    def test_one_to_thirty_steps(self):
        program = (("is", 1),) + tuple(("sum", place, 0) for place in range(29))
        for many in range(1, 31):
            self.assertCall(None, program_error, value=program[:many])
        for value in (program + (("is", 1),), (("is", 1),) * 31, (None,) * 31, ()):
            self.assertCall("form", program_error, value=value)

    def test_form(self):
        for value in ([], [("is", 7)], {}, {("is", 7): 1}, None, "", "is", 0, 7, True):
            self.assertCall("form", program_error, value=value)

    def test_each_thing_wrong(self):
        for step in WRONG:
            self.assertCall(("step", 2), program_error, value=(("is", 1), ("is", 2), step))
            self.assertCall(("step", 2), program_error, value=(("is", 1), ("is", 2), step, None, ("sum", 9, 9)))
        for step in RIGHT["sum"] + RIGHT["less"] + RIGHT["times"]:
            self.assertCall(("step", 0), program_error, value=(step,))

    def test_places_up_to_the_step(self):
        for place in (1, 2, 15, 29):
            ahead = (("is", 1),) * place
            for word in ("sum", "less"):
                for one, other in itertools.product((-1, 0, place - 1, place, place + 1), repeat=2):
                    right = 0 <= one < place and 0 <= other < place
                    self.assertCall(None if right else ("step", place), program_error, value=ahead + ((word, one, other),))
            for one in (-1, 0, place - 1, place, place + 1):
                expected = None if 0 <= one < place else ("step", place)
                self.assertCall(expected, program_error, value=ahead + (("times", one, 2),))

    def test_inputs(self):
        step = ("in", 0, 9, 3)
        for many in range(1, 13):
            self.assertCall(None, program_error, value=(step,) * many)
            self.assertCall(None, program_error, value=(step,) * many + (("is", 0),) * (30 - many))
        for many in (13, 14, 30):
            self.assertCall("inputs", program_error, value=(step,) * many)
            self.assertCall("inputs", program_error, value=(("is", 0),) * (30 - many) + (step,) * many)
        # A wrong step is told first, too many items ahead of all.
        self.assertCall(("step", 13), program_error, value=(step,) * 13 + (None,))
        self.assertCall(("step", 0), program_error, value=(("in", 0, 9, 2),) + (step,) * 20)
        self.assertCall(("step", 12), program_error, value=(step,) * 12 + (("in", 0, 9, 2),))
        self.assertCall("form", program_error, value=(step,) * 31)

    def test_any_value(self):
        for value in any_values():
            if not isinstance(value, tuple) or not 1 <= len(value) <= 30:
                self.assertCall("form", program_error, value=value)
            else:
                self.assertCall(("step", 0), program_error, value=value)
            self.assertCall(("step", 1), program_error, value=(("is", 1), value))
            self.assertCall(("step", 1), program_error, value=(("is", 1), (value, 0, 0)))
            for word in ("in", "is", "sum", "less", "times"):
                if type(value) is not int:
                    self.assertCall(("step", 1), program_error, value=(("is", 1), (word, value)))
                    self.assertCall(("step", 1), program_error, value=(("is", 1), (word, value, 0)))
                    self.assertCall(("step", 1), program_error, value=(("is", 1), (word, 0, value)))
                    self.assertCall(("step", 1), program_error, value=(("is", 1), (word, 0, 0, value)))


class InputsErrorTest(CallCase):
    def test_all_inputs(self):
        for program in small_programs():
            for inputs in all_inputs(program)[::3]:
                self.assertCall(None, inputs_error, program=program, value=inputs)

    def test_one_by_one(self):
        for span in ((-7, 11, 3), (0, 9, 1), (4, 4, 7), (-9, -1, 4), (-20, 20, 40)):
            for number in range(-25, 26):
                expected = None if number in held(*span) else ("input", 1)
                program = (("is", 3), ("in", 0, 1, 1), ("sum", 0, 1), ("in",) + span)
                self.assertCall(expected, inputs_error, program=program, value=(1, number))

    def test_great(self):
        program = (("in", -GREAT, GREAT, GREAT), ("in", 7 - GREAT, GREAT - 3, 10))
        for value, expected in (
            ((-GREAT, 7), None), ((0, 7 - GREAT), None), ((GREAT, GREAT - 3), None), ((1, 7), ("input", 0)),
            ((2 * GREAT, 7), ("input", 0)), ((-2 * GREAT, 7), ("input", 0)), ((0, 8), ("input", 1)),
            ((0, GREAT + 7), ("input", 1)), ((0, -3 - GREAT), ("input", 1)), ((10 ** 399, 10 ** 399), ("input", 0)),
        ):
            self.assertCall(expected, inputs_error, program=program, value=value)

    def test_form(self):
        for value in ((), (0,), (0, 0, 0), [0, 0], [], {0: 0, 1: 0}, None, "00", 0, True, ((0, 0),)):
            self.assertCall("form", inputs_error, program=PROGRAM, value=value)
        for value in ((0,), ((),), [], None, "", 0):
            self.assertCall("form", inputs_error, program=(("is", 7),), value=value)
        self.assertCall(None, inputs_error, program=(("is", 7),), value=())

    def test_input(self):
        for wrong in (1, -10, 100, 85, True, False, None, "0", "", (0,), (), [0], [], {}, 10 ** 399, -10 ** 399):
            self.assertCall(("input", 0), inputs_error, program=PROGRAM, value=(wrong, 0))
            self.assertCall(("input", 0), inputs_error, program=PROGRAM, value=(wrong, None))
            self.assertCall(("input", 1), inputs_error, program=PROGRAM[1::-1], value=(0, wrong))
        self.assertCall(("input", 11), inputs_error, program=(("in", 0, 1, 1),) * 12, value=(1,) * 11 + (2,))
        self.assertCall(("input", 3), inputs_error, program=(("in", 0, 1, 1),) * 12, value=(1,) * 3 + (True,) * 9)

    def test_any_value(self):
        for value in any_values():
            form = not isinstance(value, tuple) or len(value) != 2
            if value == (0, 0) and isinstance(value, tuple):
                expected = None
            else:
                expected = "form" if form else ("input", 0)
            self.assertCall(expected, inputs_error, program=PROGRAM, value=value)
            if type(value) is not int or value not in range(0, 91, 10):
                self.assertCall(("input", 0), inputs_error, program=PROGRAM, value=(value, 0))
            if type(value) is not int or abs(value) > 5:
                self.assertCall(("input", 1), inputs_error, program=PROGRAM, value=(0, value))


class ValuesTest(CallCase):
    def check_form(self, form, inputs, value):
        constant, coefficients = form
        self.assertEqual(constant + sum(map(int.__mul__, coefficients, inputs)), value)

    def test_against_all_inputs(self):
        for program in small_programs():
            inputs = all_inputs(program)
            rows = [plain_values(program, one) for one in inputs]
            told = self.called(forms, program=program)
            for one, row in zip(inputs, rows):
                self.assertEqual(run(program, one), row)
                for form, value in zip(told, row):
                    self.check_form(form, one, value)
            expected = tuple((min(values), max(values)) for values in zip(*rows))
            self.assertCall(expected, hulls, program=program)
            self.assertCall(rows[-1], run, program=program, inputs=inputs[-1])
            self.assertEqual({len(coefficients) for _, coefficients in told}, {len(inputs[0])})
            self.assertEqual(len(told), len(program))

    def test_forms_tell_the_steps(self):
        for program in small_programs():
            told = forms(program)
            spans = [place for place, step in enumerate(program) if step[0] == "in"]
            for place, (step, form) in enumerate(zip(program, told)):
                noughts = (0,) * len(spans)
                if step[0] == "in":
                    self.assertEqual(form, (0, tuple(int(place == other) for other in spans)))
                elif step[0] == "is":
                    self.assertEqual(form, (step[1], noughts))
                else:
                    self.assertEqual(form, self.joined(step, told))

    def joined(self, step, told):
        word, one, other = step
        first = [told[one][0], *told[one][1]]
        if word == "times":
            row = [other * number for number in first]
        else:
            second = [told[other][0], *told[other][1]]
            row = [a + b if word == "sum" else a - b for a, b in zip(first, second)]
        return (row[0], tuple(row[1:]))

    def test_told(self):
        self.assertCall(((7, ()),), forms, program=(("is", 7),))
        self.assertCall(((7, 7),), hulls, program=(("is", 7),))
        self.assertCall((7,), run, program=(("is", 7),), inputs=())
        twice = (("in", -2, 4, 3), ("sum", 0, 0), ("less", 0, 0), ("times", 0, -5), ("times", 0, 0), ("sum", 3, 1))
        self.assertCall(((0, (1,)), (0, (2,)), (0, (0,)), (0, (-5,)), (0, (0,)), (0, (-3,))), forms, program=twice)
        self.assertCall(((-2, 4), (-4, 8), (0, 0), (-20, 10), (0, 0), (-12, 6)), hulls, program=twice)
        self.assertCall((1, 2, 0, -5, 0, -3), run, program=twice, inputs=(1,))

    def test_added_and_taken_off_again(self):
        program = (("in", 0, 5, 1), ("in", -9, 9, 9), ("sum", 0, 1), ("less", 2, 1), ("less", 1, 2), ("sum", 4, 3), ("is", -4), ("sum", 5, 6))
        self.assertCall(
            ((0, (1, 0)), (0, (0, 1)), (0, (1, 1)), (0, (1, 0)), (0, (-1, 0)), (0, (0, 0)), (-4, (0, 0)), (-4, (0, 0))),
            forms, program=program,
        )
        self.assertCall(((0, 5), (-9, 9), (-9, 14), (0, 5), (-5, 0), (0, 0), (-4, -4), (-4, -4)), hulls, program=program)

    def test_steps_without_inputs(self):
        program = (("is", 5), ("times", 0, -3), ("sum", 0, 1), ("less", 2, 1))
        self.assertCall(((5, ()), (-15, ()), (-10, ()), (5, ())), forms, program=program)
        self.assertCall(((5, 5), (-15, -15), (-10, -10), (5, 5)), hulls, program=program)
        self.assertCall((5, -15, -10, 5), run, program=program, inputs=())

    def test_beyond_the_greatest_number(self):
        program = (("in", -GREAT, GREAT, GREAT), ("is", GREAT)) + tuple(("times", place, -FACTOR) for place in range(28))
        told = self.called(forms, program=program)
        self.assertEqual(told[2], (0, (-FACTOR,)))
        self.assertEqual(told[29], (GREAT * FACTOR ** 14, (0,)))
        self.assertEqual(told[28], (0, (FACTOR ** 14,)))
        top = GREAT * FACTOR ** 14
        self.assertEqual(self.called(hulls, program=program)[28:], ((-top, top), (top, top)))
        self.assertEqual(self.called(run, program=program, inputs=(-GREAT,))[28:], (-top, top))
        doubled = (("in", 0, GREAT, 1),) + tuple(("sum", place, place) for place in range(29))
        self.assertEqual(self.called(hulls, program=doubled)[29], (0, 2 ** 29 * GREAT))
        self.assertEqual(run(doubled, (GREAT,))[29], 2 ** 29 * GREAT)
        for inputs in ((GREAT,), (1,), (0,)):
            self.assertEqual(forms(doubled)[29][1][0] * inputs[0], run(doubled, inputs)[29])

    def test_twelve_inputs(self):
        program = tuple(("in", -k, k, k) for k in range(1, 13)) + (("sum", 0, 11),) + tuple(("less", 11 + k, k) for k in range(1, 11))
        told = self.called(forms, program=program)
        self.assertEqual(told[-1], (0, (1,) + (-1,) * 10 + (1,)))
        self.assertEqual(self.called(hulls, program=program)[-1], (-78, 78))
        inputs = tuple(range(1, 13))
        self.assertIsNone(inputs_error(program, inputs))
        self.assertEqual(self.called(run, program=program, inputs=inputs)[-1], 1 + 12 - sum(range(2, 12)))


if __name__ == "__main__":
    unittest.main()
