"""How the tests call the program: by place, by name, and twice."""

import copy
import unittest

from everyexact import errors


class CallCase(unittest.TestCase):
    def called(self, function, **named):
        """What function returns; it is called by place and by name, twice, and must change nothing."""
        handed = {name: copy.deepcopy(value) for name, value in named.items()}
        ahead = repr(handed)
        answers = [
            function(*handed.values()),
            function(**handed),
            function(*copy.deepcopy(list(handed.values()))),
        ]
        self.assertEqual(repr(handed), ahead)
        # repr tells True from 1, == does not.
        self.assertEqual([repr(answer) for answer in answers], [repr(answers[0])] * 3)
        return answers[0]

    def assertCall(self, expected, function, **named):
        self.assertEqual(repr(self.called(function, **named)), repr(expected))

    def assertFails(self, expected, function, **named):
        """By place and by name, twice, function raises an error of just this class with these fields."""
        ahead = repr(named)
        for _ in range(2):
            for call in (lambda: function(*named.values()), lambda: function(**named)):
                with self.assertRaises(errors.ExactError) as held:
                    call()
                self.assertIs(type(held.exception), type(expected))
                self.assertEqual(repr(vars(held.exception)), repr(vars(expected)))
        self.assertEqual(repr(named), ahead)


class ExampleCase(unittest.TestCase):
    """Runs the examples of the document, as they stand there."""

    def run_examples(self, text, names):
        lines = [line.strip() for line in text.splitlines() if line.strip()]
        done = 0
        while lines:
            self.assertTrue(lines[0].startswith(">>> "), lines[0])
            source = lines.pop(0)[4:]
            expected = []
            while lines and not lines[0].startswith(">>> "):
                expected.append(lines.pop(0))
            with self.subTest(example=source):
                self.run_example(source, " ".join(expected), names)
            done += 1
        return done

    def run_example(self, source, expected, names):
        if expected == "":
            exec(source, names)
        elif expected.startswith("raises "):
            error = eval(expected.removeprefix("raises "), vars(errors))
            with self.assertRaises(errors.ExactError) as held:
                eval(source, names)
            self.assertIs(type(held.exception), type(error))
            self.assertEqual(vars(held.exception), vars(error))
        else:
            self.assertEqual(repr(eval(source, names)), expected)
