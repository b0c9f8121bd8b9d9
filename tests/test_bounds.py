import unittest

from everyexact import bounds

VALUES = {
    "MAX_RULES": 40, "MAX_NUMBER": 10 ** 60, "MAX_STEP": 10 ** 60, "MAX_KINDS": 12, "MAX_VALUES": 40,
    "MAX_MANY": 10 ** 30, "MAX_NUMBERS": 40, "MAX_PLACES": 8, "MAX_STEPS": 30, "MAX_INPUTS": 12,
    "MAX_TERMS": 24, "MAX_FACTOR": 10 ** 20, "MAX_BASE": 1000, "MAX_FIGURES": 60, "MAX_LEVELS": 39,
    "MAX_NAMES": 8, "MAX_NAME": 8, "MAX_NEST": 20, "BATCH": 12, "MAX_EDITS": 40,
}


class BoundsTest(unittest.TestCase):
    def test_each_name_and_value(self):
        self.assertEqual(len(VALUES), 20)
        for name, value in VALUES.items():
            with self.subTest(name=name):
                self.assertIs(type(getattr(bounds, name)), int)
                self.assertEqual(getattr(bounds, name), value)


if __name__ == "__main__":
    unittest.main()
