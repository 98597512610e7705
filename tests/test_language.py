"""Checks the files of the package against those rules of the language that a look at the code can tell."""

import ast
import builtins
import os
import re
import unittest

ROOT = os.path.dirname(os.path.dirname(os.path.abspath(__file__)))
FOLDER = os.path.join(ROOT, "windowpicks")

LIBRARY = {
    "heapq": "heappush heappop heapify heapreplace heappushpop",
    "math": "gcd lcm isqrt comb perm factorial",
    "itertools": "product combinations permutations",
}
BUILTINS = set("""
    len range enumerate zip min max sum abs sorted reversed int str bool bytes list tuple dict set frozenset isinstance
    ord repr any all divmod map iter next super property staticmethod classmethod Exception ValueError TypeError
    KeyError IndexError LookupError ZeroDivisionError ArithmeticError OverflowError RuntimeError NotImplementedError
    AttributeError StopIteration NotImplemented object
""".split())
METHODS = set("""
    append clear copy count endswith extend find get index insert isalnum isalpha isdigit islower isspace isupper items
    join keys ljust lower lstrip partition pop remove replace reverse rfind rjust rpartition rsplit rstrip setdefault
    split splitlines startswith strip update upper values zfill bit_length translate encode sort add discard __init__
""".split())
SPECIAL = set("__init__ __eq__ __repr__ __str__ __len__ __enter__ __exit__ __call__ __iter__".split())
NOT_USED = set("""
    register mro elements open input law version_info with_traceback add_note attrgetter breakpoint builtins compile
    copyright credits delattr dir eval exec exit gc getattr globals hasattr help id importlib license locals
    methodcaller os quit setattr type vars sys typing enum Enum Flag Generic Protocol ABC namedtuple
""".split())

# Without `_`, which a doctest that ran before may have left there.
BUILT_IN = set(dir(builtins)) - {"_"}


def files():
    return sorted(name for name in os.listdir(FOLDER) if name != "__pycache__")


def text_of(name):
    with open(os.path.join(FOLDER, name), encoding="ascii", newline="") as file:
        return file.read()


def bound_names(tree):
    """All names that a file binds: variables, parameters, functions, classes and imports."""
    for node in ast.walk(tree):
        if isinstance(node, ast.Name) and not isinstance(node.ctx, ast.Load):
            yield node.id
        elif isinstance(node, (ast.FunctionDef, ast.ClassDef)):
            yield node.name
        elif isinstance(node, ast.arg):
            yield node.arg
        elif isinstance(node, ast.ImportFrom):
            for one in node.names:
                yield one.asname or one.name
        elif isinstance(node, ast.ExceptHandler) and node.name:
            yield node.name


def is_plain_side(node):
    return isinstance(node, ast.Constant) and node.value in (None, True, False)


class Language(unittest.TestCase):
    def setUp(self):
        self.trees = {name: ast.parse(text_of(name)) for name in files()}

    def nodes(self, *kinds):
        for name, tree in self.trees.items():
            for node in ast.walk(tree):
                if isinstance(node, kinds):
                    yield name, node

    def test_files(self):
        for name in files():
            self.assertRegex(name, r"\A[a-z_]+\.py\Z")
            self.assertNotIn(name[:-3], NOT_USED | BUILT_IN)
            text = text_of(name)
            self.assertRegex(text, r"\A[\n -~]*\Z", name)
            lines = text.split("\n")
            self.assertLessEqual(len(lines), 399, name)
            self.assertLessEqual(max(len(line) for line in lines), 120, name)
            for word in ["_wall", "_WallAttr", "dataclass", "overload", "contextmanager"]:
                self.assertNotIn(word, text, name)

    def test_functions_are_small(self):
        for name, node in self.nodes(ast.FunctionDef, ast.Lambda):
            self.assertLessEqual(node.end_lineno - node.lineno + 1, 40, (name, node.lineno))

    def test_module_level(self):
        for name, tree in self.trees.items():
            for node in tree.body:
                is_docstring = isinstance(node, ast.Expr) and isinstance(node.value, ast.Constant)
                self.assertTrue(
                    is_docstring or isinstance(node, (ast.ImportFrom, ast.FunctionDef, ast.ClassDef, ast.Assign)),
                    (name, node.lineno))

    def test_imports(self):
        defined = {}
        for name, tree in self.trees.items():
            names = [node.name for node in tree.body if isinstance(node, (ast.FunctionDef, ast.ClassDef))]
            names += [node.targets[0].id for node in tree.body if isinstance(node, ast.Assign)]
            defined["windowpicks." + name[:-3]] = names
        for name, node in self.nodes(ast.ImportFrom):
            self.assertEqual(node.level, 0, name)
            known = LIBRARY[node.module].split() if node.module in LIBRARY else defined[node.module]
            for one in node.names:
                self.assertIn(one.name, known, (name, node.lineno))
                self.assertIsNone(one.asname, (name, node.lineno))

    def test_imports_go_one_way(self):
        imported = {}
        for name, node in self.nodes(ast.ImportFrom):
            imported.setdefault("windowpicks." + name[:-3], set()).add(node.module)
        ended = set()
        while imported:
            ready = [name for name, those in imported.items() if not (those - ended) & set(imported)]
            self.assertTrue(ready, "a ring of imports")
            for name in ready:
                ended.add(name)
                del imported[name]

    def test_what_is_not_in_the_language(self):
        kinds = (ast.Global, ast.AsyncFunctionDef, ast.Await, ast.GeneratorExp, ast.Div, ast.MatMult, ast.Import)
        self.assertEqual([(name, getattr(node, "lineno", 0)) for name, node in self.nodes(*kinds)], [])

    def test_constants(self):
        for name, node in self.nodes(ast.Constant):
            self.assertNotIsInstance(node.value, (float, complex), (name, node.lineno))
            if isinstance(node.value, str):
                self.assertNotIn("%", node.value, (name, node.lineno))

    def test_powers_have_a_literal_exponent(self):
        for name, node in self.nodes(ast.BinOp):
            if isinstance(node.op, ast.Pow):
                self.assertIsInstance(node.right, ast.Constant, (name, node.lineno))

    def test_is_stands_beside_none_true_and_false(self):
        for name, node in self.nodes(ast.Compare):
            for operator, right in zip(node.ops, node.comparators):
                if isinstance(operator, (ast.Is, ast.IsNot)):
                    self.assertTrue(is_plain_side(node.left) or is_plain_side(right), (name, node.lineno))

    def test_names(self):
        for name, tree in self.trees.items():
            for bound in bound_names(tree):
                self.assertNotIn(bound, NOT_USED, name)
                if bound not in SPECIAL:
                    self.assertNotIn(bound, BUILT_IN, name)
                    self.assertTrue(re.fullmatch(r"_?[A-Za-z][A-Za-z0-9_]*|_", bound), (name, bound))

    def test_parameters_and_variables_are_no_imports_and_no_classes(self):
        for name, tree in self.trees.items():
            outer = [one.name for node in tree.body if isinstance(node, ast.ImportFrom) for one in node.names]
            outer += [node.name for node in tree.body if isinstance(node, ast.ClassDef)]
            functions = [node for node in ast.walk(tree) if isinstance(node, ast.FunctionDef)]
            for function in functions:
                for bound in bound_names(ast.Module(body=[function.args] + function.body, type_ignores=[])):
                    self.assertNotIn(bound, outer, (name, function.name))

    def test_builtins(self):
        for name, node in self.nodes(ast.Name):
            if node.id in BUILT_IN:
                self.assertIn(node.id, BUILTINS, (name, node.lineno))

    def test_methods_that_are_called(self):
        own = {node.name for _, node in self.nodes(ast.FunctionDef)}
        for name, node in self.nodes(ast.Call):
            if isinstance(node.func, ast.Attribute):
                self.assertIn(node.func.attr, METHODS | own, (name, node.lineno))

    def test_sets_and_views_are_used_at_once(self):
        for name, node in self.nodes(ast.Return):
            if isinstance(node.value, ast.Call) and isinstance(node.value.func, ast.Name):
                self.assertNotIn(node.value.func.id, ["set", "zip", "range", "enumerate", "reversed", "map"], name)

    def test_errors_are_raised_by_name(self):
        for name, node in self.nodes(ast.Raise):
            if node.exc is not None:
                self.assertIsInstance(node.exc, ast.Call, (name, node.lineno))
                self.assertIsInstance(node.exc.func, ast.Name, (name, node.lineno))
