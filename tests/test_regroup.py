import itertools
import random
import time
import unittest

from everyexact.addends import exact_numbers
from everyexact.exactness import exact
from everyexact.ladders import within
from everyexact.regroup import bad_regroup, bad_regroup_holds, regroupable, spans_error, terms_error
from everyexact.scales import scale_error
from tests.calling import CallCase, ExampleCase
from tests.plain_programs import held
from tests.samples import GREAT, TENS, any_values, lots_of, plainly_fits, scales_for_sums, small_scales, to_forty

EXAMPLES_I2 = """
    >>> from everyexact.regroup import bad_regroup, bad_regroup_holds, regroupable, spans_error, terms_error
    >>> spans = ((0, 90, 10), (-3, 3, 1))
    >>> [spans_error(value) for value in (spans, (), [(0, 9, 3)], ((0, 9, 2),), ((0, 9, 3), (5, 5, 7)), ((0, 9, 3), (9, 0, 3)), ((0, 1, 1),) * 13)]
    [None, None, 'form', ('span', 0), None, ('span', 1), 'form']
    >>> [terms_error(spans, value) for value in (((0, 3), (0, -3), (1, 1)), (), ((2, 1),), ((0, 0),), ((0, 1), (1, True)), ((0, 1, 1),), ((0, 1),) * 25)]
    [None, None, ('term', 0), ('term', 0), ('term', 1), ('term', 0), 'form']
"""

EXAMPLES_I3 = """
    >>> tens = ((99, 10), (999, 100), (9999, 0))
    >>> regroupable(tens, spans, ((0, 3), (0, 3))), regroupable(tens, spans, ((0, 3), (0, -3), (1, 1))), regroupable(tens, spans, ((1, 20), (1, -20), (1, 5))), bad_regroup(tens, spans, ((0, 3), (0, 3)))
    (True, False, True, None)
    >>> terms = ((0, 3), (0, -3), (1, 1))
    >>> [bad_regroup_holds(tens, spans, terms, value) for value in (bad_regroup(tens, spans, terms), ((90, 3), (0, 2)), ((40, -1), (1, 2)), ((30, 3), (0, 2)), ((90, 3), (0, 1, 2)), ((95, 3), (0, 2)), ((90, 3), (2, 0)), ((90, 3), [0, 2]), None)]
    [True, True, True, False, False, False, False, False, False]
    >>> regroupable(tens, ((-9, 9, 3),), ((0, 11), (0, -4))), bad_regroup_holds(tens, ((-9, 9, 3),), ((0, 12),), ((-9,), (0,))), regroupable(tens, (), ())
    (True, True, True)
    >>> far = ((10 ** 40, 10 ** 20), (10 ** 59, 0))
    >>> regroupable(far, ((0, 10 ** 58, 10 ** 20),), ((0, 1), (0, 2))), regroupable(far, ((0, 10 ** 58, 10 ** 19),), ((0, 1), (0, 2)))
    (True, False)
"""

SPANS = ((0, 90, 10), (-3, 3, 1))
TERMS = ((0, 3), (0, -3), (1, 1))
FACTOR = 10 ** 20

RIGHT_SPANS = [
    (0, 9, 3), (0, 9, 1), (0, 9, 9), (5, 5, 7), (-9, -3, 2), (-7, 8, 5), (-GREAT, GREAT, GREAT), (GREAT, GREAT, 1), (0, GREAT, GREAT),
    (-GREAT, -GREAT, GREAT), (0, 0, 1), (-GREAT, GREAT, 1),
]
WRONG_SPANS = [
    (0, 9, 2), (0, 9, 10), (0, 9, 0), (5, 5, 0), (0, 9, -3), (5, 5, -1), (9, 0, 3), (9, 0, -3), (1, 0, 1), (0, GREAT + 1, 1),
    (-GREAT - 1, 0, 1), (0, 0, GREAT + 1), (5, 5, 2 * GREAT), (-GREAT, GREAT, 2 * GREAT), (0, 10 ** 399, 1), (0, 9), (0, 9, 3, 0), (0,),
    (), (True, 9, 1), (0, True, 1), (0, 9, True), (False, 9, 1), (0, False, 1), (0, 9, False), (None, 9, 1), (0, None, 1), (0, 9, None),
    ("0", 9, 1), (0, "9", 1), (0, 9, "1"), ((0,), 9, 1), (0, [9], 1), (0, 9, (1,)), [0, 9, 3], {0: 1, 9: 2, 3: 4}, "0,9,3", None, 0,
    True, ((0, 9, 3),), ("in", 0, 9, 3),
]
RIGHT_TERMS = [(0, 1), (1, 1), (0, -1), (1, 7), (1, FACTOR), (0, -FACTOR)]
WRONG_TERMS = [
    (2, 1), (-1, 1), (-2, 1), (10 ** 399, 1), (0, 0), (1, 0), (0, FACTOR + 1), (1, -FACTOR - 1), (0, 10 ** 399), (True, 1), (False, 1),
    (0, True), (0, False), (None, 1), (0, None), ("0", 1), (0, "1"), ((0,), 1), (0, (1,)), ([0], 1), (0, [1]), (0,), (0, 1, 1), (),
    [0, 1], {0: 1, 1: 0}, "01", None, 0, 1, True, ((0, 1),),
]


def lot_sum(terms, values, lot):
    return sum(terms[place][1] * values[terms[place][0]] for place in lot)


def all_values(spans):
    return list(itertools.product(*[held(*span) for span in spans]))


def all_lot_sums(spans, terms):
    """The sums of all lots for all values of the spans, gone through."""
    sums = set()
    for values in all_values(spans):
        found = {0}
        for which, factor in terms:
            found |= {total + factor * values[which] for total in found}
        sums |= found
    return sums


def small_cases():
    """Few spans, of one integer and more, below 0, above it and across it, and none to six terms of them."""
    source = random.Random(179)
    cases = [((), ()), (((0, 9, 3),), ()), (SPANS, TERMS), (((5, 5, 7), (0, 9, 3)), ()), (((0, 0, 1),), ((0, 5), (0, -5)))]
    for many, terms_many in itertools.product((1, 1, 2, 2, 3), (1, 2, 3, 4, 5, 6)):
        for unit in (1, 1, 2, 3, 5):
            spans = []
            for _ in range(many):
                stride, steps = unit * source.randrange(1, 4), source.choice((0, 1, 2, 3, 6))
                low = unit * source.choice((source.randrange(-9, 10), 0, -stride // unit * source.randrange(0, steps + 1)))
                spans.append((low, low + stride * steps, stride))
            terms = [(source.randrange(many), source.choice((1, 2, 3, -1, -2, -3, 5, -7))) for _ in range(terms_many)]
            cases.append((tuple(spans), tuple(terms)))
    for low, steps, stride in itertools.product((-30, -14, -1, 0, 2), (11, 29), (1, 2, 3)):
        terms = [(0, source.choice((1, 2, 3, -1, -2, 4))) for _ in range(source.randrange(1, 5))]
        cases.append((((low, low + steps * stride, stride),), tuple(terms)))
    return cases


class ExamplesTest(ExampleCase):
    def test_examples(self):
        self.assertEqual(self.run_examples(EXAMPLES_I2 + EXAMPLES_I3, {}), 11)


class SpansErrorTest(CallCase):
    def test_spans(self):
        for many in range(13):
            self.assertCall(None, spans_error, value=tuple(RIGHT_SPANS[k % len(RIGHT_SPANS)] for k in range(many)))
        for span in RIGHT_SPANS:
            self.assertCall(None, spans_error, value=(span,))
            self.assertCall(None, spans_error, value=(span,) * 12)

    def test_form(self):
        for value in ([], [(0, 9, 3)], {}, {(0, 9, 3): 1}, None, "", "()", 0, True, ((0, 1, 1),) * 13, (None,) * 13):
            self.assertCall("form", spans_error, value=value)

    def test_each_thing_wrong_once(self):
        for wrong in WRONG_SPANS:
            self.assertCall(("span", 0), spans_error, value=(wrong,))
            self.assertCall(("span", 1), spans_error, value=((0, 9, 3), wrong, None))
            self.assertCall(("span", 11), spans_error, value=((0, 9, 3),) * 11 + (wrong,))
            self.assertCall("form", spans_error, value=((0, 9, 3),) * 12 + (wrong,))
            self.assertCall("form", spans_error, value=[wrong])

    def test_any_value(self):
        for value in any_values():
            if not isinstance(value, tuple) or len(value) > 12:
                self.assertCall("form", spans_error, value=value)
            else:
                self.assertCall(("span", 0), spans_error, value=value)
            self.assertCall(("span", 1), spans_error, value=((0, 9, 3), value))
            for span in ((value, GREAT, 1), (-GREAT, value, 1), (5, 5, value)):
                right = type(value) is int and (abs(value) <= GREAT if span[2] == 1 else 1 <= value <= GREAT)
                self.assertCall(None if right else ("span", 0), spans_error, value=(span,))


class TermsErrorTest(CallCase):
    def test_terms(self):
        for many in range(25):
            value = tuple(RIGHT_TERMS[k % len(RIGHT_TERMS)] for k in range(many))
            self.assertCall(None, terms_error, spans=SPANS, value=value)

    def test_places_of_spans(self):
        for many, which in itertools.product(range(13), range(-2, 14)):
            expected = None if 0 <= which < many else ("term", 0)
            self.assertCall(expected, terms_error, spans=((0, 9, 3),) * many, value=((which, 1),))
        self.assertCall(None, terms_error, spans=(), value=())

    def test_form(self):
        for value in ([], [(0, 1)], {}, {(0, 1): 1}, None, "", 0, True, ((0, 1),) * 25, (None,) * 25):
            self.assertCall("form", terms_error, spans=SPANS, value=value)

    def test_each_thing_wrong_once(self):
        for wrong in WRONG_TERMS:
            self.assertCall(("term", 0), terms_error, spans=SPANS, value=(wrong,))
            self.assertCall(("term", 1), terms_error, spans=SPANS, value=((1, -5), wrong, None))
            self.assertCall(("term", 23), terms_error, spans=SPANS, value=((0, 1),) * 23 + (wrong,))
            self.assertCall("form", terms_error, spans=SPANS, value=((0, 1),) * 24 + (wrong,))
            self.assertCall("form", terms_error, spans=SPANS, value=[wrong])

    def test_any_value(self):
        for value in any_values():
            if not isinstance(value, tuple) or len(value) > 24:
                self.assertCall("form", terms_error, spans=SPANS, value=value)
            else:
                self.assertCall(("term", 0) if value else None, terms_error, spans=SPANS, value=value)
            self.assertCall(("term", 1), terms_error, spans=SPANS, value=((0, 1), value))
            right = type(value) is int and value in (0, 1)
            self.assertCall(None if right else ("term", 0), terms_error, spans=SPANS, value=((value, 1),))
            right = type(value) is int and 1 <= abs(value) <= FACTOR
            self.assertCall(None if right else ("term", 0), terms_error, spans=SPANS, value=((0, value),))


class RegroupCase(CallCase):
    def check_told(self, scale, spans, terms, expected):
        """regroupable is expected, and bad_regroup a pair that shows it, or None."""
        self.assertIs(regroupable(scale, spans, terms), expected)
        pair = bad_regroup(scale, spans, terms)
        if expected:
            self.assertIsNone(pair)
        else:
            self.check_pair(scale, spans, terms, pair)

    def check_pair(self, scale, spans, terms, pair):
        self.assertIs(type(pair), tuple)
        values, lot = pair
        self.assertIs(type(values), tuple)
        self.assertIs(type(lot), tuple)
        self.assertEqual([type(item) for item in values + lot], [int] * (len(spans) + len(lot)))
        self.assertEqual(len(values), len(spans))
        self.assertTrue(all(value in held(*span) for span, value in zip(spans, values)))
        self.assertEqual(lot, tuple(sorted(set(lot))))
        self.assertFalse(plainly_fits(scale, lot_sum(terms, values, lot)))
        self.assertEqual(repr(bad_regroup(scale, spans, terms)), repr(pair))
        self.assertIs(bad_regroup_holds(scale, spans, terms, pair), True)

    def check_calls(self, scale, spans, terms, expected):
        self.check_told(scale, spans, terms, expected)
        self.assertCall(expected, regroupable, scale=scale, spans=spans, terms=terms)
        pair = self.called(bad_regroup, scale=scale, spans=spans, terms=terms)
        self.assertCall(not expected, bad_regroup_holds, scale=scale, spans=spans, terms=terms, value=pair)

    def check_turned(self, scale, spans, terms, expected):
        """The same with terms and spans in another order, and with all factors turned in sign."""
        self.check_told(scale, spans, terms[::-1], expected)
        self.check_told(scale, spans, tuple((which, -factor) for which, factor in terms), expected)
        last = len(spans) - 1
        self.check_told(scale, spans[::-1], tuple((last - which, factor) for which, factor in terms), expected)
        mirrored = tuple((-high, -low, stride) for low, high, stride in spans)
        self.check_told(scale, mirrored, terms, expected)


class SmallTest(RegroupCase):
    def test_against_all_values_and_lots(self):
        source = random.Random(181)
        told = []
        for spans, terms in small_cases():
            self.assertIsNone(spans_error(spans))
            self.assertIsNone(terms_error(spans, terms))
            sums = all_lot_sums(spans, terms)
            for scale in scales_for_sums(sums, source, 8) + source.sample(small_scales(), 2) + [TENS]:
                self.assertIsNone(scale_error(scale))
                expected = all(plainly_fits(scale, total) for total in sums)
                self.check_told(scale, spans, terms, expected)
                told.append((len(spans), expected, len(scale)))
            self.check_turned(scale, spans, terms, expected)
        self.assertEqual({pair[:2] for pair in told}, set(itertools.product(range(4), (True, False))) - {(0, False)})
        self.assertLessEqual({0, 1, 2, 3, 40}, {many for _, _, many in told})

    def test_each_sum_alone_off(self):
        """Scales by which just one sum of all, or those beyond it, do not fit: each sum counts that is beyond the others."""
        for spans, terms in small_cases():
            sums = all_lot_sums(spans, terms)
            for step in (2, 3, 4, 5, 7):
                apart = sorted({abs(total) for total in sums if total % step != 0})
                for bound in apart[-2:]:
                    self.check_told(((bound, step),), spans, terms, bound == apart[-1])
                    for scale in to_forty(((bound, step),), max(abs(total) for total in sums)):
                        self.check_told(scale, spans, terms, bound == apart[-1])
                if apart:
                    self.check_told(((apart[-1] - 1, step),), spans, terms, False)

    def test_one_span_for_several_terms(self):
        # 3 x and -3 x are never 6 x, but either may come alone.
        self.check_calls(((90, 0),), ((0, 30, 10),), ((0, 3), (0, -3)), True)
        self.check_calls(((89, 0),), ((0, 30, 10),), ((0, 3), (0, -3)), False)
        # By two spans they are, if one value is 30 and the other one -30.
        self.check_calls(((90, 0),), ((-30, 30, 10),) * 2, ((0, 3), (1, -3)), False)
        self.check_calls(((180, 0),), ((-30, 30, 10),) * 2, ((0, 3), (1, -3)), True)
        # x, x and 2 y: 2 x is even, x and 2 y are odd to 3 + 2, and all come to 10.
        for scale, expected in (
            (((5, 2),), True), (((4, 2),), False), (((5, 2), (10, 0)), True), (((5, 2), (9, 0)), False), (((4, 2), (10, 0)), False),
        ):
            self.check_calls(scale, ((0, 4, 1), (0, 1, 1)), ((0, 1), (1, 2), (0, 1)), expected)

    def test_no_spans_and_no_terms(self):
        for scale in ((), ((0, 0),), TENS):
            self.check_calls(scale, (), (), True)
            self.check_calls(scale, SPANS, (), True)
            self.check_calls(scale, ((105, 105, 1),), (), True)
            for value in (((), ()), (), ((), (0,)), None):
                self.assertCall(False, bad_regroup_holds, scale=scale, spans=(), terms=(), value=value)

    def test_values_in_the_middle_count(self):
        # 10 x and -11 x: 0, 10 x, -11 x and -x. By 9 and -9 the ends are multiples of 9, by 1 they are not.
        self.check_calls(((9, 9),), ((-9, 9, 9),), ((0, 10), (0, -11)), True)
        self.check_calls(((9, 9),), ((-9, 9, 1),), ((0, 10), (0, -11)), False)
        self.check_calls(((0, 6),), ((0, 60, 6),), ((0, 1),), True)
        self.check_calls(((0, 6),), ((0, 60, 3),), ((0, 1),), False)
        # 3 alone does not fit: one off 0, far off the ends.
        self.check_calls(((2, 3), (2, 6)), ((-6, 6, 3),), ((0, 1),), False)
        self.check_calls(((3, 6),), ((-6, 6, 3),), ((0, 1),), True)

    def test_many_small_terms_against_a_great_one(self):
        # By 1 the first span's terms above 0 come to one sum, by -1 to one that is 2 off it: 202 and 5 are the greatest odd one.
        for row in ((200, -50, -50, -50, -52), (202, -50, -50, -50, -50)):
            terms = tuple((0, factor) for factor in row) + ((1, 1),)
            for bound, expected in ((206, False), (207, True)):
                self.check_calls(((bound, 2),), ((-1, 1, 2), (0, 10, 5)), terms, expected)
                self.check_turned(((bound, 2),), ((-1, 1, 2), (0, 10, 5)), terms, expected)

    def test_great_at_one_end_alone(self):
        # From 95 on, or from -95 down, there are odd sums.
        for low, high in ((-95, 10), (-10, 95)):
            self.check_calls(((94, 2),), ((low, high, 5),), ((0, 1),), False)
            self.check_calls(((95, 2),), ((low, high, 5),), ((0, 1),), True)
            self.check_calls(((90, 3), (94, 0)), ((low, high, 5),), ((0, 1),), False)


class ValueByValueTest(RegroupCase):
    """What [I4] asks of each value that a span holds, for spans of so many values that not all of them together are gone through."""

    def looks(self, spans, terms):
        """The sums that [I4] tells from above."""
        def above(which, value):
            return sum(max(0, factor * value) for other, factor in terms if other == which)

        most = [max(above(which, value) for value in held(*span)) for which, span in enumerate(spans)]
        found = set()
        for which, span in enumerate(spans):
            for value in held(*span):
                total = sum(most) - most[which] + above(which, value)
                found |= {total} | {total - abs(value * factor) for other, factor in terms if other == which}
        return found

    def random_case(self, source):
        spans = []
        for _ in range(source.randrange(1, 4)):
            stride, steps = source.choice((1, 2, 3, 4, 6, 10)), source.choice((0, 1, 2, 3, 5, 9, 20))
            low = source.choice((source.randrange(-30, 31), -stride * source.randrange(steps + 1), -source.randrange(stride * steps + 1)))
            spans.append((low, low + stride * steps, stride))
        terms = [(source.randrange(len(spans)), source.choice((-1, 1)) * source.randrange(1, 8)) for _ in range(source.randrange(8))]
        return tuple(spans), tuple(terms)

    def test_random_spans(self):
        source = random.Random(313)
        told = [0, 0]
        for _ in range(1500):
            spans, terms = self.random_case(source)
            sums = self.looks(spans, terms) | self.looks(spans, tuple((which, -factor) for which, factor in terms)) | {0}
            for _ in range(4):
                # A sum that is no multiple just fits, or just does not.
                bounds = [max(0, abs(source.choice(sorted(sums))) + source.choice((-1, 0, 0, 1))) for _ in range(source.randrange(1, 3))]
                scale = tuple((bound, source.choice((0, 2, 3, 4, 5, 6, 7, 9, 10))) for bound in bounds)
                expected = all(plainly_fits(scale, total) for total in sums)
                self.check_told(scale, spans, terms, expected)
                told[expected] += 1
        self.assertGreater(min(told), 500)


class GreatTest(RegroupCase):
    """Twelve spans and 24 terms, with more values than can be gone through."""

    def setUp(self):
        self.began = time.process_time()

    def tearDown(self):
        self.assertLess(time.process_time() - self.began, 20)

    def great(self, unit):
        """Two terms for each span, with factors of both signs, all values multiples of unit; 10 ** 58 and more of them."""
        spans = tuple((-k * 10 ** 58 * unit, (12 - k) * 10 ** 57 * unit, unit) for k in range(6))
        spans += tuple((k * unit, (k + 10 ** 58) * unit, (k % 3 + 1) * unit) for k in range(6))
        spans = tuple((low, low + (high - low) // stride * stride, stride) for low, high, stride in spans)
        terms = tuple((k % 12, (k + 1) * (-1) ** (k // 5)) for k in range(24))
        self.assertIsNone(spans_error(spans))
        self.assertIsNone(terms_error(spans, terms))
        return spans, terms

    def ends(self, spans, terms):
        """The least and the greatest sum, span by span at an end."""
        least = greatest = 0
        for which, (low, high, _) in enumerate(spans):
            rows = [[factor * value for other, factor in terms if other == which] for value in (low, high)]
            greatest += max(sum(term for term in row if term > 0) for row in rows)
            least += min(sum(term for term in row if term < 0) for row in rows)
        return least, greatest

    def test_multiples(self):
        for unit in (1, 6, 10):
            spans, terms = self.great(unit)
            self.check_calls(((0, unit),) if unit > 1 else (), spans, terms, True)
            if unit > 1:
                self.check_told(((0, unit), (10 ** 59, unit)), spans, terms, True)
                for scale in to_forty(((0, unit), (7, unit), (0, unit)), 10 ** 59):
                    self.check_told(tuple((bound, unit) for bound, _ in scale), spans, terms, True)
                self.check_told(((0, unit * 7),), spans, terms, False)
                self.check_told(((10 ** 59, unit * 7),), spans, terms, False)
                self.check_turned(((0, unit),), spans, terms, True)

    def test_one_factor_or_span_off(self):
        for at in (0, 11, 12, 23):
            spans, terms = self.great(10)
            off = tuple((which, factor * 10 + (place == at)) for place, (which, factor) in enumerate(terms))
            self.check_told(((0, 10),), spans, off, True)
            self.check_calls(((0, 100),), spans, off, False)
            self.check_turned(((0, 100),), spans, off, False)
        for at in (0, 5, 6, 11):
            spans, terms = self.great(10)
            off = tuple((low + (which == at), high + (which == at), stride) for which, (low, high, stride) in enumerate(spans))
            self.check_calls(((0, 10),), off, terms, False)
            self.check_turned(((10 ** 30, 10), (10 ** 50, 5)), off, terms, False)

    def test_by_one_sum_not(self):
        """All fits, but the greatest sum, or the least one, is one beyond the bound."""
        for unit in (1, 10):
            spans, terms = self.great(unit)
            # What can come up has to lie within the greatest bound of a rule.
            spans = tuple((low // 10 ** 3 // unit * unit, high // 10 ** 3 // unit * unit, unit) for low, high, _ in spans)
            self.assertIsNone(spans_error(spans))
            least, greatest = self.ends(spans, terms)
            top = max(-least, greatest)
            self.assertLess(top, GREAT)
            for scale, expected in (
                (((top, 0),), True), (((top - 1, 0),), False), (((top - unit, 0),), False), (((top, 7), (top, 0)), True),
                (((top, 7), (top - 1, 0), (top, 2)), False),
            ):
                self.check_calls(scale, spans, terms, expected)
                self.check_turned(scale, spans, terms, expected)
                if len(scale) == 1:
                    for forty in to_forty(scale, top):
                        self.check_told(forty, spans, terms, expected)

    def test_by_one_sum_no_multiple(self):
        for unit, at in itertools.product((10 ** 6, 2 ** 30), (0, 3, 7)):
            spans = tuple((0, 10 ** 20 * unit * (k + 1), unit) for k in range(12))
            terms = tuple((k, 1) for k in range(12)) + tuple((k, -1) for k in range(12))
            top = sum(high for _, high, _ in spans)
            step = 2 * unit
            # top is a multiple of step, and one stride off it is none.
            self.check_calls(((top - unit, step),), spans, terms, True)
            self.check_calls(((top - unit - 1, step),), spans, terms, False)
            self.check_turned(((top - unit - 1, step), (top, 3)), spans, terms, False)
            low, high, stride = spans[at]
            off = spans[:at] + ((low, high - stride, stride),) + spans[at + 1:]
            # Now top less one stride is the greatest sum of those above 0, but below 0 it is so, too.
            self.check_calls(((top - unit, step),), off, terms, True)
            self.check_calls(((top - unit - 1, step),), off, terms, False)
            self.check_calls(((top - 2 * unit, step),), off, terms, False)

    def test_spans_across_0(self):
        span = (-10 ** 58, 10 ** 58, 10 ** 20)
        for terms, bound, expected in (
            (((0, 1), (0, 2)), 3 * 10 ** 58, True), (((0, 1), (0, 2)), 3 * 10 ** 58 - 1, False), (((0, 1), (0, -2)), 2 * 10 ** 58, True),
            (((0, 1), (0, -2)), 2 * 10 ** 58 - 1, False), (((0, 1), (0, -2), (0, 4)), 5 * 10 ** 58, True),
            (((0, 1), (0, -2), (0, 4)), 5 * 10 ** 58 - 1, False), (((0, 1), (0, -6), (0, 4)), 6 * 10 ** 58, True),
            (((0, 1), (0, -6), (0, 4)), 6 * 10 ** 58 - 1, False),
        ):
            self.check_calls(((bound, 0),), (span,), terms, expected)
            self.check_calls(((10 ** 20 - 1, 10 ** 20), (bound, 0)), (span,), terms, expected)
            self.check_calls(((10 ** 20, 2 * 10 ** 20), (bound, 0)), (span,), terms, False)
            off = (span[0] + 1, span[1] + 1, span[2])
            self.check_calls(((GREAT, 0), (10 ** 20, 10 ** 20)), (off,), terms, False)
            self.check_turned(((bound, 0),), (span,), terms, expected)

    def test_great_factors(self):
        spans = ((-GREAT, GREAT, GREAT),) * 12
        terms = tuple((k % 12, FACTOR * (-1) ** k) for k in range(24))
        self.check_calls(((0, GREAT),), spans, terms, True)
        self.check_calls(((GREAT, 0),), spans, terms, False)
        self.check_calls((), spans, terms, True)
        self.check_calls(((GREAT, 3),), spans, terms, False)


class BadRegroupHoldsTest(CallCase):
    def test_against_all_values_and_lots(self):
        source = random.Random(191)
        for spans, terms in source.sample(small_cases(), 60):
            values = source.choice(all_values(spans))
            sums = all_lot_sums(spans, terms)
            for scale in scales_for_sums(sums, source, 2):
                for lot in lots_of(len(terms)):
                    expected = not plainly_fits(scale, lot_sum(terms, values, lot))
                    self.assertIs(bad_regroup_holds(scale, spans, terms, (values, lot)), expected)

    def test_wrong_values(self):
        self.assertCall(True, bad_regroup_holds, scale=TENS, spans=SPANS, terms=TERMS, value=((90, 3), (0, 2)))
        for values in (
            (95, 3), (100, 3), (-10, 3), (90, 4), (90, -4), (90,), (90, 3, 0), (), [90, 3], {90: 3}, None, 90, "90", (90, None), (90, True),
            ("90", 3), ((90, 3),), ([90], 3), (10 ** 399, 3), (90, 3, None), (True, 3), (90, [3]),
        ):
            self.assertCall(False, bad_regroup_holds, scale=TENS, spans=SPANS, terms=TERMS, value=(values, (0, 2)))

    def test_wrong_lots(self):
        for lot in (
            (2, 0), (0, 0, 2), (0, 2, 2), (0, 2, 3), (-1, 0, 2), (0, 2, 10 ** 399), [0, 2], {0: 2}, None, 0, 2, "02", (0, None), (0, "2"),
            (False, 2), (0, True, 2), ((0, 2),), ([0], 2), (0, (2,)), (0, [2]), (0, 2, ()), (-3, -1), (0, 3),
        ):
            self.assertCall(False, bad_regroup_holds, scale=TENS, spans=SPANS, terms=TERMS, value=((90, 3), lot))
        # True and 1 are one to Python, but not here.
        self.assertCall(False, bad_regroup_holds, scale=((0, 0),), spans=((5, 5, 1),), terms=((0, 1), (0, 1)), value=((5,), (True,)))
        self.assertCall(True, bad_regroup_holds, scale=((0, 0),), spans=((5, 5, 1),), terms=((0, 1), (0, 1)), value=((5,), (1,)))
        self.assertCall(False, bad_regroup_holds, scale=((0, 0),), spans=((1, 1, 1),), terms=((0, 1),), value=((True,), (0,)))

    def test_sums_that_fit(self):
        for value in (((30, 3), (0, 2)), ((90, 3), (0, 1, 2)), ((90, 3), ()), ((90, 3), (0,)), ((0, -3), (1, 2)), ((90, 0), (0, 2))):
            self.assertCall(False, bad_regroup_holds, scale=TENS, spans=SPANS, terms=TERMS, value=value)

    def test_wrong_pairs(self):
        for value in (
            [(90, 3), (0, 2)], ((90, 3), (0, 2), ()), ((90, 3),), ((0, 2), (90, 3)), (90, 3, 0, 2), {(90, 3): (0, 2)},
            (((90, 3), (0, 2)),), ((90, 3), 0, 2), (), ((), ()),
        ):
            self.assertCall(False, bad_regroup_holds, scale=TENS, spans=SPANS, terms=TERMS, value=value)

    def test_any_value(self):
        for value in any_values():
            self.assertCall(False, bad_regroup_holds, scale=TENS, spans=SPANS, terms=TERMS, value=value)
            self.assertCall(False, bad_regroup_holds, scale=TENS, spans=SPANS, terms=TERMS, value=(value, (0, 2)))
            self.assertCall(False, bad_regroup_holds, scale=TENS, spans=SPANS, terms=TERMS, value=((90, 3), (0, 2, value)))
            self.assertCall(False, bad_regroup_holds, scale=TENS, spans=SPANS, terms=TERMS, value=((90, 3), value))
            if type(value) is not int or abs(value) > 3:
                self.assertCall(False, bad_regroup_holds, scale=TENS, spans=SPANS, terms=TERMS, value=((90, value), (0, 2)))


class WhatHoldsTest(RegroupCase):
    def test_spans_of_one_integer(self):
        source = random.Random(193)
        told = set()
        for _ in range(150):
            many = source.randrange(1, 7)
            spans = tuple((number, number, source.randrange(1, 9)) for number in [source.randrange(-9, 10) for _ in range(many)])
            terms = tuple((source.randrange(many), source.choice((-3, -2, -1, 1, 2, 5))) for _ in range(source.randrange(0, 9)))
            numbers = tuple(factor * spans[which][0] for which, factor in terms)
            for scale in scales_for_sums(all_lot_sums(spans, terms), source, 3):
                expected = exact_numbers(scale, numbers)
                self.check_told(scale, spans, terms, expected)
                told.add(expected)
        self.assertEqual(told, {True, False})

    def test_unlike_spans(self):
        """No two terms of one span: then the terms' values, with 0, are items of a bag."""
        source = random.Random(197)
        told = set()
        for _ in range(150):
            spans = []
            for _ in range(source.randrange(1, 5)):
                low, stride = source.randrange(-12, 13), source.randrange(1, 5)
                spans.append((low, low + stride * source.randrange(0, 5), stride))
            spans = tuple(spans)
            places = source.sample(range(len(spans)), source.randrange(0, len(spans) + 1))
            terms = tuple((which, source.choice((-3, -2, -1, 1, 2, 5))) for which in places)
            items = [{factor * value for value in held(*spans[which])} | {0} for which, factor in terms]
            bag = tuple((tuple(sorted(item)), 1) for item in items)
            for scale in scales_for_sums(all_lot_sums(spans, terms), source, 3):
                expected = exact(scale, bag)
                self.check_told(scale, spans, terms, expected)
                told.add(expected)
        self.assertEqual(told, {True, False})

    def test_less_stays_regroupable(self):
        source = random.Random(199)
        for spans, terms in small_cases()[::3]:
            for scale in scales_for_sums(all_lot_sums(spans, terms), source, 2):
                if not regroupable(scale, spans, terms):
                    continue
                for place in range(len(terms)):
                    self.check_told(scale, spans, terms[:place] + terms[place + 1:], True)
                for which, (low, high, stride) in enumerate(spans):
                    if low < high:
                        for span in ((low, high - stride, stride), (low + stride, high, stride), (low, high, high - low)):
                            self.check_told(scale, spans[:which] + (span,) + spans[which + 1:], terms, True)
                for other in (scale[1:], scale[:-1], scale[::-1], scale + scale[:1]) + tuple(source.sample(small_scales(), 3)):
                    if within(scale, other):
                        self.check_told(other, spans, terms, True)


if __name__ == "__main__":
    unittest.main()
