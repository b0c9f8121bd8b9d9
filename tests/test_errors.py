import copy
import unittest

from everyexact import errors
from tests.samples import any_values

FIELDS = {
    "Unfit": None, "BadText": None, "BadScale": "error", "BadBag": "error", "TooMany": "limit", "NoName": "given",
    "Taken": "given", "BadBatch": None, "Rejected": "index", "TooManyEdits": None, "NothingToUndo": None,
    "NothingToRedo": None, "NoVersion": "given", "BadLog": "place",
}


def made(name):
    """An error of this class."""
    return getattr(errors, name)(*[] if FIELDS[name] is None else [0])


class ErrorsTest(unittest.TestCase):
    def test_kept_as_passed(self):
        for name, field in FIELDS.items():
            if field is None:
                continue
            for value in any_values():
                with self.subTest(name=name, value=repr(value)[:60]):
                    error_class = getattr(errors, name)
                    ahead = repr(value)
                    self.assertIs(getattr(error_class(value), field), value)
                    self.assertIs(getattr(error_class(**{field: value}), field), value)
                    self.assertEqual(repr(value), ahead)

    def test_without_arguments(self):
        for name, field in FIELDS.items():
            if field is None:
                self.assertEqual(vars(getattr(errors, name)()), {})

    def test_classes(self):
        self.assertEqual(errors.ExactError.__bases__, (ValueError,))
        self.assertIsInstance(errors.ExactError(), ValueError)
        for name in FIELDS:
            with self.subTest(name=name):
                self.assertEqual(getattr(errors, name).__bases__, (errors.ExactError,))
                self.assertIsInstance(made(name), ValueError)
                for other in FIELDS:
                    self.assertEqual(isinstance(made(name), getattr(errors, other)), name == other)
        self.assertNotIsInstance(ValueError(), errors.ExactError)

    def test_caught_by_its_own_class(self):
        for name in FIELDS:
            for caught in (name, "ExactError"):
                error = made(name)
                try:
                    raise error
                except getattr(errors, caught) as held:
                    self.assertIs(held, error)

    def test_not_caught_by_another_class(self):
        for name in FIELDS:
            others = tuple(getattr(errors, other) for other in FIELDS if other != name)
            with self.subTest(name=name), self.assertRaises(getattr(errors, name)):
                try:
                    raise made(name)
                except others:
                    self.fail("caught by another class")

    def test_copies_keep_their_fields(self):
        # Errors are values that may be handed in, so whoever holds one may copy it.
        for name, field in FIELDS.items():
            error = made(name)
            by_name = error if field is None else getattr(errors, name)(**{field: 0})
            for one in (error, by_name):
                twin = copy.deepcopy(one)
                self.assertIs(type(twin), type(one))
                self.assertEqual(vars(twin), vars(one))


if __name__ == "__main__":
    unittest.main()
