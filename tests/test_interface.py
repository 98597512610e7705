import ast
import importlib
import inspect
import os
import unittest

ROOT = os.path.dirname(os.path.dirname(os.path.abspath(__file__)))

# What the interface lists: the functions of each file with their parameters.
FUNCTIONS = {
    "rules": {"is_forward": ["rule"], "order_of": ["rule"]},
    "picks": {
        "picks": ["rule", "text"], "picked": ["rule", "text"], "is_picked": ["rule", "around"], "gap": ["rule"],
    },
    "shares": {
        "even_share": ["rule"],
        "share": ["rule", "text"],
        "greatest_share": ["rule", "lot"],
        "least_share": ["rule", "lot"],
        "ring": ["rule", "is_greatest", "lot"],
        "heights": ["rule", "share", "is_greatest", "lot"],
        "heights_hold": ["rule", "share", "is_greatest", "value", "lot"],
    },
    "common": {
        "common": ["rule", "one", "other"],
        "least_common": ["rule"],
        "parted": ["rule", "t"],
        "least_near": ["rule"],
        "parted_near": ["rule", "t"],
    },
    "edits": {
        "moved": ["rule", "text", "at", "letter"], "greatest_moved": ["rule"], "most_moved": ["rule"],
    },
    "comparing": {"alike": ["p", "q"], "no_more": ["p", "q"], "parting": ["p", "q"]},
    "lots": {
        "meets_all": ["letters", "k", "lot"],
        "longest_free": ["letters", "k", "lot"],
        "free_text": ["letters", "k", "lot"],
        "count_free": ["letters", "k", "lot", "length"],
        "necklace": ["piece"],
        "necklaces": ["letters", "k"],
        "least_lot": ["letters", "k"],
        "least_for": ["letters", "k", "length"],
        "lot_for": ["letters", "k", "length"],
        "rule_within": ["letters", "w", "k", "lot"],
    },
    "orders": {
        "order_share": ["letters", "w", "k", "order"],
        "best_share": ["letters", "w", "k"],
        "best_order": ["letters", "w", "k"],
        "cost": ["letters", "w", "k", "lot", "piece"],
        "prices": ["letters", "w", "k", "share"],
        "prices_hold": ["letters", "w", "k", "share", "value"],
    },
    "bounds": {"bound": ["letters", "w", "k"], "is_met": ["rule"], "best_rule": ["letters", "w", "k"]},
    "telling": {
        "texts_with": ["rule", "length", "told"],
        "count_with": ["rule", "length", "told"],
        "surely_shared": ["rule", "one", "other"],
    },
}

# The default values of the functions; all other parameters have none.
DEFAULTS = {("shares", name, "lot"): () for name in "greatest_share least_share ring heights heights_hold".split()}

# The same for its classes, with the methods that stand in the class itself.
CLASSES = {
    "errors": {
        "PickError": {},
        "InvalidRule": {"__init__": ["self", "word"]},
        "InvalidText": {"__init__": ["self", "at"]},
        "InvalidLetters": {"__init__": ["self", "at"]},
        "InvalidLot": {"__init__": ["self", "at"]},
        "InvalidOrder": {},
        "InvalidEdit": {},
        "InvalidCommand": {},
        "Refused": {"__init__": ["self", "at"]},
    },
    "rules": {
        "Rule": {
            "__init__": ["self", "letters", "w", "k", "table"],
            "offset": ["self", "window"],
            "turned": ["self"],
            "by_order": ["cls", "letters", "w", "k", "order", "last"],
            "read": ["cls", "text"],
            "__eq__": ["self", "other"],
            "__str__": ["self"],
        },
    },
    "live": {
        "Live": {
            "__init__": ["self", "rule", "text"],
            "rule": ["self"],
            "text": ["self"],
            "picks": ["self"],
            "put": ["self", "at", "letters"],
            "drop": ["self", "at", "many"],
            "change": ["self", "at", "letter"],
            "several": ["self", "edits"],
            "undo": ["self"],
            "within": ["self", "work"],
            "__len__": ["self"],
        },
    },
    "desk": {"Desk": {"__init__": ["self"], "say": ["self", "command"]}},
}


def tree_of(name):
    with open(os.path.join(ROOT, "windowpicks", name + ".py"), encoding="ascii") as file:
        return ast.parse(file.read())


def definitions(body, kind):
    return {node.name: node for node in body if isinstance(node, kind)}


def parameters(node):
    return [argument.arg for argument in node.args.args]


class Interface(unittest.TestCase):
    def test_functions_stand_in_their_files(self):
        for name, functions in FUNCTIONS.items():
            found = definitions(tree_of(name).body, ast.FunctionDef)
            for function, expected in functions.items():
                self.assertEqual(parameters(found[function]), expected)
                self.assertTrue(callable(getattr(importlib.import_module("windowpicks." + name), function)))

    def test_default_values_of_functions(self):
        for name, functions in FUNCTIONS.items():
            for function, expected in functions.items():
                told = inspect.signature(getattr(importlib.import_module("windowpicks." + name), function)).parameters
                for one in expected:
                    default = DEFAULTS.get((name, function, one), inspect.Parameter.empty)
                    self.assertEqual(told[one].default, default, (name, function, one))

    def test_classes_and_their_methods_stand_in_their_files(self):
        for name, classes in CLASSES.items():
            found = definitions(tree_of(name).body, ast.ClassDef)
            for one, methods in classes.items():
                own = definitions(found[one].body, ast.FunctionDef)
                for method, expected in methods.items():
                    self.assertEqual(parameters(own[method]), expected, (one, method))

    def test_default_values_and_kinds(self):
        from windowpicks.rules import Rule
        self.assertIs(inspect.signature(Rule.by_order).parameters["last"].default, False)
        self.assertIsInstance(inspect.getattr_static(Rule, "turned"), property)
        self.assertIsInstance(inspect.getattr_static(Rule, "by_order"), classmethod)
        self.assertIsInstance(inspect.getattr_static(Rule, "read"), classmethod)
        from windowpicks.live import Live
        self.assertEqual(inspect.signature(Live).parameters["text"].default, "")
        for name in ("rule", "text", "picks"):
            self.assertIsInstance(inspect.getattr_static(Live, name), property)

    def test_the_package_is_empty_but_for_a_docstring(self):
        tree = tree_of("__init__")
        self.assertEqual(len(tree.body), 1)
        self.assertIsNotNone(ast.get_docstring(tree))
