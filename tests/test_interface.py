"""The names, their places and their arguments, as the document's interface lists them."""

import importlib
import inspect
import unittest

FUNCTIONS = {
    "scales": {
        "scale_error": ["value"], "fits": ["scale", "number"], "broken": ["scale", "number"],
        "fitting_many": ["scale", "low", "high"], "fitting_from": ["scale", "number"],
    },
    "floats": {"float_scale": ["base", "figures", "levels"]},
    "scaletexts": {"scale_text": ["scale"], "read_scale": ["value"]},
    "ladders": {
        "ladder": ["scale"], "alike": ["one", "other"], "parting": ["one", "other"], "within": ["one", "other"],
        "both": ["one", "other"],
    },
    "bags": {
        "bag_error": ["value"], "choice_error": ["bag", "value"], "sum_of": ["bag", "choice"], "ends": ["bag"],
        "looks": ["bag"],
    },
    "exactness": {"exact": ["scale", "bag"], "loose": ["scale", "bag"], "is_loose": ["scale", "bag", "value"]},
    "addends": {"numbers_error": ["value"], "bag_of": ["numbers"], "exact_numbers": ["scale", "numbers"]},
    "trees": {
        "tree_error": ["many", "value"], "tree_sums": ["numbers", "tree"], "is_clean": ["scale", "numbers", "tree"],
        "unclean": ["scale", "numbers"],
    },
    "orders": {
        "clean_order": ["scale", "numbers"], "order_many": ["scale", "numbers"], "clean_tree": ["scale", "numbers"],
        "longest_start": ["scale", "numbers"],
    },
    "room": {
        "may_come": ["scale", "bag", "number"], "copies": ["scale", "bag", "number"],
        "next_to_come": ["scale", "bag", "low", "high"], "room": ["scale", "bag", "low", "high"],
    },
    "lots": {
        "greatest_lots": ["scale", "numbers"], "fewest_lots": ["scale", "numbers"], "few": ["scale", "numbers"],
    },
    "programs": {
        "program_error": ["value"], "inputs_error": ["program", "value"], "run": ["program", "inputs"],
        "forms": ["program"], "hulls": ["program"],
    },
    "checks": {
        "first_unfit": ["scale", "program"], "unfit_inputs": ["scale", "program"],
        "unfit_holds": ["scale", "program", "value"],
    },
    "regroup": {
        "spans_error": ["value"], "terms_error": ["spans", "value"], "regroupable": ["scale", "spans", "terms"],
        "bad_regroup": ["scale", "spans", "terms"], "bad_regroup_holds": ["scale", "spans", "terms", "value"],
    },
    "products": {
        "keepable": ["base", "figures", "number"], "products_exact": ["base", "figures", "numbers"],
        "shares": ["base", "numbers"], "bad_lot": ["base", "figures", "numbers"],
    },
    "widths": {
        "figures_of": ["base", "number"], "least_figures": ["base", "bag"], "mark": ["base", "numbers"],
        "greatest_many": ["scale", "item"], "cut": ["base", "places", "number"], "least_cut": ["scale", "base", "numbers"],
    },
    "logs": {"log_text": ["edits"], "read_log": ["value"], "bench_behind": ["edits"]},
}

# Each method is defined in the class itself.
CLASSES = {
    "benches": ("Bench", {
        "keep": ["name", "sort", "value"], "drop": ["name"], "rule_put": ["name", "rule"], "rule_taken": ["name"],
        "kind_put": ["name", "item", "many"], "kind_taken": ["name"], "batch": ["edits"], "exact_of": ["name", "other"],
        "ladder_of": ["name"], "undo": [], "redo": [], "at": ["version"], "copy": [], "attempt": ["work"],
    }),
    "shells": ("Shell", {"say": ["line"]}),
}

ERRORS = {
    "ExactError": None, "Unfit": [], "BadText": [], "BadScale": ["error"], "BadBag": ["error"], "TooMany": ["limit"],
    "NoName": ["given"], "Taken": ["given"], "BadBatch": [], "Rejected": ["index"], "TooManyEdits": [],
    "NothingToUndo": [], "NothingToRedo": [], "NoVersion": ["given"], "BadLog": ["place"],
}


class InterfaceTest(unittest.TestCase):
    def test_functions(self):
        for file, functions in FUNCTIONS.items():
            module = importlib.import_module("everyexact." + file)
            for name, arguments in functions.items():
                with self.subTest(name=name):
                    function = getattr(module, name)
                    self.assertTrue(inspect.isfunction(function))
                    self.assertEqual(function.__module__, "everyexact." + file)
                    self.assertEqual(list(inspect.signature(function).parameters), arguments)

    def test_classes(self):
        for file, (name, methods) in CLASSES.items():
            module = importlib.import_module("everyexact." + file)
            own = getattr(module, name)
            self.assertTrue(inspect.isclass(own))
            self.assertEqual(own.__module__, "everyexact." + file)
            self.assertEqual(list(inspect.signature(own).parameters), [])
            for method, arguments in methods.items():
                with self.subTest(name=method):
                    self.assertTrue(inspect.isfunction(vars(own)[method]))
                    self.assertEqual(list(inspect.signature(vars(own)[method]).parameters)[1:], arguments)

    def test_a_bench_has_its_own_signs(self):
        own = vars(importlib.import_module("everyexact.benches").Bench)
        for name in ("__len__", "__contains__", "__getitem__", "__iter__", "__eq__", "__ne__", "shelf", "version", "log", "made"):
            self.assertIn(name, own)

    def test_errors(self):
        module = importlib.import_module("everyexact.errors")
        for name, arguments in ERRORS.items():
            with self.subTest(name=name):
                error_class = getattr(module, name)
                self.assertTrue(inspect.isclass(error_class))
                self.assertEqual(error_class.__module__, "everyexact.errors")
                if arguments:
                    self.assertEqual(list(inspect.signature(error_class).parameters), arguments)


if __name__ == "__main__":
    unittest.main()
