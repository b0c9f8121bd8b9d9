import unittest

from everyexact.errors import Unfit
from everyexact.floats import float_scale
from everyexact.scales import fits, scale_error
from tests.calling import CallCase, ExampleCase
from tests.samples import GREAT

EXAMPLES_A8 = """
    >>> from everyexact.floats import float_scale
    >>> float_scale(10, 2, 2) == tens, float_scale(2, 3, 1), float_scale(2, 1, 2), float_scale(7, 2, 0)
    (True, ((7, 2), (15, 0)), ((1, 2), (3, 4), (7, 0)), ((48, 0),))
    >>> float_scale(10, 60, 0) == ((10 ** 60 - 1, 0),), len(float_scale(2, 53, 39)), float_scale(2, 53, 39)[0] == (2 ** 53 - 1, 2)
    (True, 40, True)
    >>> float_scale(10, 60, 1)
    raises Unfit()
"""


def told_scale(base, figures, levels):
    """The rules as the document tells them."""
    rules = [(base ** (figures + k) - 1, base ** (k + 1)) for k in range(levels)]
    return tuple(rules) + ((base ** (figures + levels) - 1, 0),)


class ExamplesTest(ExampleCase):
    def test_examples(self):
        names = {"tens": ((99, 10), (999, 100), (9999, 0))}
        self.assertEqual(self.run_examples(EXAMPLES_A8, names), 4)


class FloatScaleTest(CallCase):
    def test_against_all_integers(self):
        for base, most in ((2, 5), (3, 3), (4, 3), (7, 2), (10, 2)):
            for figures in range(1, most):
                for levels in range(most):
                    self.check_small(base, figures, levels)

    def check_small(self, base, figures, levels):
        scale = self.called(float_scale, base=base, figures=figures, levels=levels)
        end = base ** figures
        floats = {m * base ** k for m in range(1 - end, end) for k in range(levels + 1)}
        top = base ** (figures + levels) + 2 * base
        for number in range(-top, top + 1):
            self.assertEqual(fits(scale, number), number in floats)
        for far in (base ** (figures + levels + 1), base ** 100):
            self.assertFalse(fits(scale, far) or fits(scale, -far))

    def test_rules_at_the_edges(self):
        for base, figures, levels in (
            (2, 1, 0), (2, 1, 39), (2, 60, 0), (2, 60, 39), (1000, 1, 0), (1000, 1, 19), (1000, 20, 0), (10, 21, 39),
            (10, 60, 0), (10, 59, 1), (31, 40, 0), (4, 60, 39), (999, 2, 3),
        ):
            self.assertCall(told_scale(base, figures, levels), float_scale, base=base, figures=figures, levels=levels)

    def test_unfit(self):
        for base, figures, levels in ((1000, 60, 39), (1000, 1, 20), (1000, 21, 0), (10, 60, 1), (10, 22, 39), (5, 60, 39)):
            self.assertFails(Unfit(), float_scale, base=base, figures=figures, levels=levels)

    def test_unfit_exactly_above_the_bound(self):
        for base in range(2, 1001):
            most = 0
            while base ** (most + 1) - 1 <= GREAT:
                most += 1
            for figures in (1, 2, 20, 59, 60):
                levels = most - figures
                if 0 <= levels <= 39:
                    self.assertEqual(float_scale(base, figures, levels), told_scale(base, figures, levels))
                    self.assertIsNone(scale_error(float_scale(base, figures, levels)))
                if 0 <= levels + 1 <= 39:
                    with self.assertRaises(Unfit):
                        float_scale(base, figures, levels + 1)


if __name__ == "__main__":
    unittest.main()
