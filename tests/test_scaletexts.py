import unittest

from everyexact.errors import BadText
from everyexact.scaletexts import read_scale, scale_text
from tests.calling import CallCase, ExampleCase
from tests.samples import ABOVE, BELOW, GREAT, TENS, any_values, great_scales, small_scales

EXAMPLES_A9 = """
    >>> from everyexact.scaletexts import read_scale, scale_text
    >>> scale_text(tens), scale_text(()), read_scale("7/2 15/0"), read_scale("")
    ('99/10 999/100 9999/0', '', ((7, 2), (15, 0)), ())
    >>> read_scale("7/1")
    raises BadText()
    >>> read_scale("07/2")
    raises BadText()
    >>> read_scale("7/2  15/0")
    raises BadText()
"""


class ExamplesTest(ExampleCase):
    def test_examples(self):
        self.assertEqual(self.run_examples(EXAMPLES_A9, {"tens": TENS}), 5)


class TextsTest(CallCase):
    def test_there_and_back(self):
        for scale in [((0, 2),) * 40, ((GREAT, GREAT), (0, 0), (GREAT, 2))] + small_scales() + great_scales():
            text = self.called(scale_text, scale=scale)
            self.assertEqual(text, " ".join(str(bound) + "/" + str(step) for bound, step in scale))
            self.assertCall(scale, read_scale, value=text)

    def test_texts(self):
        self.assertCall("0/0", scale_text, scale=((0, 0),))
        self.assertCall("1" + "0" * 60 + "/1" + "0" * 60, scale_text, scale=((GREAT, GREAT),))
        self.assertCall(((0, 0),), read_scale, value="0/0")
        self.assertCall(((10, 20),), read_scale, value="10/20")
        self.assertCall((), read_scale, value="")
        self.assertCall(tuple((0, step) for step in BELOW), read_scale, value="0/%d 0/%d" % BELOW)

    def bad(self, text):
        self.assertFails(BadText(), read_scale, value=text)

    def test_other_ways_of_writing(self):
        for text in (
            "07/2", "7/02", "00/2", "7/00", "0/", "/0", "/", "7", "7/", "/2", "7//2", "7/2/3", "7/2/", "+7/2", "7/+2",
            "-7/2", "7/-2", "-0/2", "7/-0", "7_0/2", "7/1_0", "7.0/2", "7e1/2", "0x7/2", "7/a", "a/2", "seven/two",
            "7 /2", "7/ 2", "7:2", "7,2", "(7, 2)", "((7, 2),)", "7/2,15/0", "7/2;15/0", "7/2\t15/0", "none", "()",
        ):
            self.bad(text)
            self.bad("7/2 " + text)

    def test_blanks_and_line_feeds(self):
        for text in (
            " ", "  ", " 7/2", "7/2 ", "7/2  15/0", " 7/2 15/0", "7/2 15/0 ", "\n", "7/2\n", "\n7/2", "7/2\n15/0", "7\n/2",
            "7/2 \n15/0", "7/2 15/0\n", " " * 20000, "\n" * 20000,
        ):
            self.bad(text)

    def test_figures_beyond_ascii(self):
        for text in ("\u0667/2", "7/\u00b2", "\uff17/2"):
            self.bad(text)

    def test_no_scales(self):
        for text in (
            "7/1", "1/1", "%d/2" % (GREAT + 1), "7/%d" % (GREAT + 1), "%d/0" % (10 * GREAT), " ".join(["0/2"] * 41),
            "0/%d 0/7" % GREAT, "0/%d 9/%d" % ABOVE, " ".join(["0/0"] * 5000),
        ):
            self.bad(text)

    def test_very_long_figures(self):
        for figures in ("9" * 61, "1" + "0" * 61, "9" * 400, "9" * 4300, "9" * 4301, "1" * 19990, "0" * 5000, "0" * 4999 + "7"):
            for text in (figures, figures + "/2", "7/" + figures, "7/2 " + figures + "/0"):
                self.bad(text)

    def test_any_value(self):
        for value in any_values():
            if value != "" and value != "7/2":
                self.bad(value)
        for value in (TENS, list(TENS), ("7/2",), ["7/2"], {"7/2": 1}, b"7/2"):
            self.bad(value)


if __name__ == "__main__":
    unittest.main()
