"""The rules of LANGUAGE.md that are soon broken without noticing; the others are for the reader."""

import ast
import builtins
import io
import pathlib
import tokenize
import unittest

PACKAGE = pathlib.Path(__file__).resolve().parent.parent / "everyexact"

LIBRARY = {
    "heapq": {"heappush", "heappop", "heapify", "heapreplace", "heappushpop"},
    "math": {"gcd", "lcm", "isqrt", "comb", "perm", "factorial"},
}

BUILTINS = set(
    "len range enumerate zip min max sum abs sorted reversed int str bool bytes list tuple dict set isinstance ord repr any all divmod super"
    " property type iter ValueError KeyError IndexError LookupError ZeroDivisionError NotImplementedError".split()
)

METHODS = set(
    "append clear copy count endswith extend find get index insert isalnum isalpha isdigit islower isspace isupper items join keys ljust lower"
    " lstrip partition pop remove replace reverse rfind rjust rpartition rsplit rstrip setdefault split splitlines startswith strip update upper"
    " values zfill bit_length isascii isdecimal removeprefix removesuffix".split()
)

DUNDERS = {"__init__", "__eq__", "__ne__", "__repr__", "__str__", "__len__", "__iter__", "__contains__", "__getitem__", "__name__"}

BARRED = {
    "typing", "enum", "Enum", "Generic", "Protocol", "ABC", "namedtuple", "dataclass", "overload", "contextmanager", "register", "mro",
    "elements", "open", "input", "law", "eval", "exec", "globals", "locals", "vars", "chr", "getattr", "setattr", "hasattr",
}


class LanguageTest(unittest.TestCase):
    def setUp(self):
        self.files = sorted(PACKAGE.glob("*.py"))
        self.trees = {file.name: ast.parse(file.read_text()) for file in self.files}

    def nodes(self, *kinds):
        return [(name, node) for name, tree in self.trees.items() for node in ast.walk(tree) if isinstance(node, kinds)]

    def own_names(self):
        """The file of each name that stands at module level, imports left out."""
        found = {}
        for name, tree in self.trees.items():
            for node in tree.body:
                if isinstance(node, (ast.FunctionDef, ast.ClassDef)):
                    found.setdefault(name, set()).add(node.name)
                elif isinstance(node, ast.Assign):
                    found.setdefault(name, set()).update(target.id for target in node.targets)
        return found

    def test_only_python_files(self):
        others = [path.name for path in PACKAGE.iterdir() if path not in self.files]
        self.assertIn(others, ([], ["__pycache__"]))
        self.assertIn("__init__.py", self.trees)

    def test_sizes_and_signs(self):
        for file in self.files:
            text = file.read_text()
            lines = text.splitlines()
            self.assertLess(len(lines), 400, file)
            self.assertLessEqual(max([len(line) for line in lines], default=0), 120, file)
            self.assertTrue(all(sign == "\n" or " " <= sign <= "~" for sign in text), file)

    def test_functions_are_small(self):
        for name, node in self.nodes(ast.FunctionDef):
            self.assertLessEqual(node.end_lineno - node.lineno + 1, 40, (name, node.name))

    def test_imports(self):
        own = self.own_names()
        self.assertEqual(self.nodes(ast.Import), [])
        for name, node in self.nodes(ast.ImportFrom):
            words = {alias.name for alias in node.names}
            if node.module.startswith("everyexact."):
                # Each name is imported from the file that defines it.
                self.assertLessEqual(words, own[node.module.removeprefix("everyexact.") + ".py"], (name, node.module))
            else:
                self.assertLessEqual(words, LIBRARY.get(node.module, set()), name)
            self.assertEqual([alias.asname for alias in node.names], [None] * len(words))

    def test_no_two_files_import_each_other(self):
        needs = {name: set() for name in self.trees}
        for name, node in self.nodes(ast.ImportFrom):
            if node.module.startswith("everyexact."):
                needs[name].add(node.module.removeprefix("everyexact.") + ".py")
        while needs:
            free = [name for name, others in needs.items() if not others & set(needs)]
            self.assertNotEqual(free, [], needs)
            for name in free:
                del needs[name]

    def test_all_that_is_imported_is_used(self):
        for name, tree in self.trees.items():
            words = [alias.name for node in ast.walk(tree) if isinstance(node, ast.ImportFrom) for alias in node.names]
            used = {node.id for node in ast.walk(tree) if isinstance(node, ast.Name)}
            self.assertEqual([word for word in words if word not in used], [], name)

    def test_module_level(self):
        for name, tree in self.trees.items():
            for place, node in enumerate(tree.body):
                docstring = place == 0 and isinstance(node, ast.Expr) and isinstance(node.value, ast.Constant)
                self.assertTrue(docstring or isinstance(node, (ast.ImportFrom, ast.FunctionDef, ast.ClassDef, ast.Assign)), (name, node.lineno))
                if isinstance(node, ast.Assign):
                    self.assertEqual([isinstance(part, (ast.Call, ast.ListComp)) for part in ast.walk(node)].count(True), 0)

    def test_values(self):
        for name, node in self.nodes(ast.Constant):
            self.assertNotIsInstance(node.value, (float, complex), name)
            if isinstance(node.value, str):
                self.assertNotIn("%", node.value, name)
                self.assertFalse(node.value.startswith("__"), name)
        self.assertEqual(self.nodes(ast.Div, ast.Global, ast.AsyncFunctionDef, ast.GeneratorExp, ast.SetComp, ast.NamedExpr, ast.With), [])

    def test_exponents_are_literals(self):
        for name, node in self.nodes(ast.BinOp):
            if isinstance(node.op, ast.Pow):
                self.assertIsInstance(node.right, ast.Constant, (name, node.lineno))
                self.assertLessEqual(node.right.value, 64)

    def test_names(self):
        own = {word for words in self.own_names().values() for word in words}
        for name, tree in self.trees.items():
            imported = {alias.name for node in ast.walk(tree) if isinstance(node, ast.ImportFrom) for alias in node.names}
            classes = {node.name for node in tree.body if isinstance(node, ast.ClassDef)}
            bound = [node.arg for node in ast.walk(tree) if isinstance(node, ast.arg)]
            bound += [node.id for node in ast.walk(tree) if isinstance(node, ast.Name) and isinstance(node.ctx, ast.Store)]
            bound += [node.name for node in ast.walk(tree) if isinstance(node, ast.ExceptHandler) and node.name]
            self.assertEqual([word for word in bound if word in imported | classes], [], name)
            self.assertEqual([word for word in bound + sorted(own) if word in vars(builtins)], [], name)
            self.assertEqual([word for word in bound if word in BARRED], [], name)
        for name, node in self.nodes(ast.Name):
            if node.id in vars(builtins):
                self.assertIn(node.id, BUILTINS, (name, node.lineno))

    def test_methods_that_are_called(self):
        own = {node.name for _, node in self.nodes(ast.FunctionDef)}
        for name, node in self.nodes(ast.Call):
            if isinstance(node.func, ast.Attribute):
                self.assertIn(node.func.attr, METHODS | own, (name, node.lineno))

    def test_double_underscores(self):
        for name, node in self.nodes(ast.FunctionDef):
            if node.name.startswith("__"):
                self.assertIn(node.name, DUNDERS, name)
            self.assertIn([ast.unparse(one) for one in node.decorator_list], ([], ["property"]))
        for name, node in self.nodes(ast.Attribute):
            if node.attr.startswith("__"):
                self.assertIn(node.attr, DUNDERS, (name, node.lineno))

    def test_sets_are_told_on_the_spot(self):
        """A set stands in sorted or len, by itself or joined with others by - & | ^, and nowhere else."""
        for name, tree in self.trees.items():
            above = {child: node for node in ast.walk(tree) for child in ast.iter_child_nodes(node)}
            for node in ast.walk(tree):
                if isinstance(node, ast.Set) or (isinstance(node, ast.Call) and isinstance(node.func, ast.Name) and node.func.id == "set"):
                    parent = above[node]
                    while isinstance(parent, ast.BinOp):
                        parent = above[parent]
                    self.assertTrue(isinstance(parent, ast.Call) and parent.func.id in ("sorted", "len"), (name, node.lineno))

    def test_words_that_are_barred(self):
        for file in self.files:
            for token in tokenize.generate_tokens(io.StringIO(file.read_text()).readline):
                if token.type == tokenize.NAME:
                    self.assertNotIn(token.string, BARRED, (file, token.start))
            self.assertNotIn("(type)", file.read_text())
            self.assertNotIn("_wall", file.read_text())

    def test_lambdas_stand_alone(self):
        places = [(name, node.lineno) for name, node in self.nodes(ast.Lambda)]
        self.assertEqual(len(places), len(set(places)))

    def test_handlers(self):
        for name, node in self.nodes(ast.ExceptHandler):
            self.assertEqual(ast.unparse(node.type), "ExactError", (name, node.lineno))
        for name, node in self.nodes(ast.Try):
            self.assertEqual(node.finalbody, [])
        for name, node in self.nodes(ast.Raise):
            self.assertTrue(node.exc is None or isinstance(node.exc, ast.Call), (name, node.lineno))


if __name__ == "__main__":
    unittest.main()
