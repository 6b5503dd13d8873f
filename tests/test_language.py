"""Rows of ../shared/LANGUAGE.md beyond those in test_package.py, as far as the package's text shows them plainly."""

import ast
import builtins
import re
import unittest

from tests.test_package import ALLOWED_NAMES, files, trees

FORBIDDEN = (
    ast.With, ast.Match, ast.Delete, ast.Global, ast.Nonlocal, ast.Assert, ast.Yield, ast.YieldFrom, ast.Await,
    ast.AsyncFunctionDef, ast.AsyncFor, ast.AsyncWith, ast.Set, ast.SetComp, ast.DictComp, ast.GeneratorExp,
    ast.NamedExpr, ast.Starred, ast.AnnAssign, ast.Import,
)

WORDS = """
    type typing typing_extensions enum Enum IntEnum StrEnum Flag IntFlag Generic Protocol ABC ABCMeta namedtuple
    NamedTuple TypedDict TYPE_CHECKING abstractmethod
""".split()

METHODS = set("""
    append clear copy count endswith extend find get index insert isalnum isalpha isdigit islower isspace isupper items
    join keys ljust lower lstrip partition pop remove replace reverse rfind rjust rpartition rsplit rstrip setdefault
    split splitlines startswith strip update upper values zfill bit_length
""".split())

CHANGES = {"append", "clear", "extend", "insert", "pop", "remove", "reverse", "setdefault", "update"}


def names_of_pythons_values():
    names = set()
    for value in ("", 0, [], (), {}, set(), b""):
        names |= {name for name in dir(value) if not name.startswith("__")}
    return names


def nodes(kind):
    return [(name, node) for name, tree in trees() for node in ast.walk(tree) if isinstance(node, kind)]


def names_bound_within(function):
    bound = {argument.arg for argument in function.args.args}
    return bound | {node.id for node in ast.walk(function)
                    if isinstance(node, ast.Name) and isinstance(node.ctx, ast.Store)}


def bound_at_the_top(tree):
    bound = set()
    for node in tree.body:
        if isinstance(node, ast.ImportFrom):
            bound |= {alias.name for alias in node.names}
        elif isinstance(node, ast.ClassDef):
            bound.add(node.name)
    return bound


class Language(unittest.TestCase):
    def test_statements_and_expressions(self):
        self.assertEqual([(name, node.lineno) for name, node in nodes(FORBIDDEN)], [])
        for name, node in nodes((ast.For, ast.While)):
            self.assertEqual(node.orelse, [], (name, node.lineno))
        for name, node in nodes(ast.BinOp):
            self.assertNotIsInstance(node.op, (ast.Div, ast.Pow), (name, node.lineno))
        for name, node in nodes(ast.Assign):
            self.assertEqual(len(node.targets), 1, (name, node.lineno))
        for name, node in nodes(ast.ListComp):
            self.assertEqual(len(node.generators), 1, (name, node.lineno))
            self.assertLessEqual(len(node.generators[0].ifs), 1, (name, node.lineno))

    def test_is_stands_beside_none_true_and_false(self):
        for name, node in nodes(ast.Compare):
            if any(isinstance(operator, (ast.Is, ast.IsNot)) for operator in node.ops):
                for side in node.comparators:
                    self.assertIsInstance(side, ast.Constant, (name, node.lineno))
                    self.assertIn(side.value, (None, True, False), (name, node.lineno))

    def test_functions(self):
        for name, node in nodes(ast.FunctionDef):
            arguments = node.args
            self.assertEqual(node.decorator_list, [], (name, node.name))
            self.assertFalse(arguments.vararg or arguments.kwarg or arguments.kwonlyargs, (name, node.name))

    def test_locals_are_called_like_nothing_else(self):
        for name, tree in trees():
            taken = bound_at_the_top(tree) | set(dir(builtins)) | ALLOWED_NAMES
            for node in ast.walk(tree):
                if isinstance(node, ast.FunctionDef):
                    self.assertEqual(names_bound_within(node) & taken, set(), (name, node.name))

    def test_methods_and_values_of_objects(self):
        methods, values = set(), set()
        for name, node in nodes(ast.ClassDef):
            own = [part.name for part in node.body if isinstance(part, ast.FunctionDef)]
            self.assertEqual(len(own), len(set(own)), (name, node.name))
            methods |= set(own)
            values |= {part.attr for part in ast.walk(node)
                       if isinstance(part, ast.Attribute) and isinstance(part.ctx, ast.Store)}
        self.assertEqual(methods & values, set())
        self.assertEqual((methods | values) & names_of_pythons_values(), set())
        for name, node in nodes(ast.Attribute):
            if node.attr not in methods | values:
                self.assertIn(node.attr, METHODS, (name, node.lineno))

    def test_what_a_loop_walks_is_not_changed_in_it(self):
        for name, loop in nodes(ast.For):
            for node in ast.walk(loop):
                if isinstance(node, ast.Call) and isinstance(node.func, ast.Attribute) and node.func.attr in CHANGES:
                    self.assertNotEqual(ast.unparse(node.func.value), ast.unparse(loop.iter), (name, loop.lineno))

    def test_names_and_words(self):
        for name, node in nodes(ast.Name):
            self.assertFalse(node.id.startswith("_"), (name, node.lineno))
        for name, node in nodes(ast.Constant):
            if isinstance(node.value, str):
                self.assertNotIn("%", node.value, (name, node.lineno))
        for path in files():
            text = path.read_text(encoding="utf-8")
            for word in WORDS:
                self.assertIsNone(re.search(rf"\b{word}\b", text), (path.name, word))


if __name__ == "__main__":
    unittest.main()
