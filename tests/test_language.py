"""The rules of LANGUAGE.md that are soon broken without noticing; the others are for the reader."""

import ast
import pathlib
import unittest

PACKAGE = pathlib.Path(__file__).resolve().parent.parent / "everyexact"

LIBRARY = {
    "heapq": {"heappush", "heappop", "heapify", "heapreplace", "heappushpop"},
    "math": {"gcd", "lcm", "isqrt", "comb", "perm", "factorial"},
}


class LanguageTest(unittest.TestCase):
    def setUp(self):
        self.files = sorted(PACKAGE.glob("*.py"))
        self.trees = {file.name: ast.parse(file.read_text()) for file in self.files}

    def nodes(self, *kinds):
        return [(name, node) for name, tree in self.trees.items() for node in ast.walk(tree) if isinstance(node, kinds)]

    def test_only_python_files(self):
        others = [path.name for path in PACKAGE.iterdir() if path not in self.files]
        self.assertIn(others, ([], ["__pycache__"]))
        self.assertIn("__init__.py", self.trees)

    def test_sizes_and_signs(self):
        for file in self.files:
            text = file.read_text()
            lines = text.splitlines()
            self.assertLess(len(lines), 400, file)
            self.assertLessEqual(max([len(line) for line in lines], default=0), 120, file)
            self.assertTrue(all(sign == "\n" or " " <= sign <= "~" for sign in text), file)

    def test_functions_are_small(self):
        for name, node in self.nodes(ast.FunctionDef):
            self.assertLessEqual(node.end_lineno - node.lineno + 1, 40, (name, node.name))

    def test_imports(self):
        self.assertEqual(self.nodes(ast.Import), [])
        for name, node in self.nodes(ast.ImportFrom):
            words = {alias.name for alias in node.names}
            if not node.module.startswith("everyexact."):
                self.assertLessEqual(words, LIBRARY.get(node.module, set()), name)
            self.assertEqual([alias.asname for alias in node.names], [None] * len(words))

    def test_values(self):
        for name, node in self.nodes(ast.Constant):
            self.assertNotIsInstance(node.value, (float, complex), name)
            if isinstance(node.value, str):
                self.assertNotIn("%", node.value, name)
        self.assertEqual(self.nodes(ast.Div, ast.Global, ast.AsyncFunctionDef), [])

    def test_exponents_are_literals(self):
        for name, node in self.nodes(ast.BinOp):
            if isinstance(node.op, ast.Pow):
                self.assertIsInstance(node.right, ast.Constant, (name, node.lineno))
                self.assertLessEqual(node.right.value, 64)


if __name__ == "__main__":
    unittest.main()
