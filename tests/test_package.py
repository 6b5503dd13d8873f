"""Point 1, as far as the package's own text shows it, and the rows of the language that a short look can hold it to."""

import ast
import importlib
import inspect
import pathlib
import unittest

import turnhouse

PACKAGE = pathlib.Path(turnhouse.__file__).parent

# Of Python's own names the package may use these alone; none of them reads a clock, chance or a file.
ALLOWED_NAMES = set("""
    len range enumerate zip min max sum abs sorted reversed int str bool list tuple dict set frozenset isinstance ord
    repr any all divmod Exception ValueError TypeError KeyError IndexError LookupError ZeroDivisionError
    ArithmeticError OverflowError RuntimeError NotImplementedError StopIteration
""".split())


INTERFACE = {
    "rooms": {"room_at": ["house", "room", "walk"], "lets": ["house", "walk"]},
    "ways": {"ways_in": ["house"], "some_walk": ["house"], "walks_up_to": ["house", "most"]},
    "comparing": {"told_apart": ["house", "one", "other"], "difference": ["one", "other"]},
    "least": {"least": ["house"]},
    "building": {
        "opposite": ["house"], "both": ["one", "other"], "either": ["one", "other"], "behind": ["one", "other"],
        "again": ["house"], "backwards": ["house"],
    },
    "plans": {"house_of": ["plan"]},
}


def files():
    return sorted(PACKAGE.rglob("*.py"))


def trees():
    return [(path.name, ast.parse(path.read_text(encoding="utf-8"))) for path in files()]


def names_bound(tree):
    bound = set()
    for node in ast.walk(tree):
        if isinstance(node, ast.Name) and isinstance(node.ctx, ast.Store):
            bound.add(node.id)
        elif isinstance(node, (ast.FunctionDef, ast.ClassDef)):
            bound.add(node.name)
        elif isinstance(node, ast.arg):
            bound.add(node.arg)
        elif isinstance(node, ast.alias):
            bound.add(node.asname or node.name)
        elif isinstance(node, ast.ExceptHandler) and node.name:
            bound.add(node.name)
    return bound


class Package(unittest.TestCase):
    def test_the_interface_is_there(self):
        for part, functions in INTERFACE.items():
            module = importlib.import_module("turnhouse." + part)
            for name, arguments in functions.items():
                self.assertEqual(list(inspect.signature(getattr(module, name)).parameters), arguments, name)

    def test_nothing_but_python_files_lies_in_the_package(self):
        others = [path for path in PACKAGE.rglob("*") if path.is_file() and path.suffix not in (".py", ".pyc")]
        self.assertEqual(others, [])

    def test_only_the_package_itself_is_imported(self):
        for name, tree in trees():
            for node in ast.walk(tree):
                self.assertNotIsInstance(node, ast.Import, name)
                if isinstance(node, ast.ImportFrom):
                    self.assertEqual(node.level, 0, name)
                    self.assertTrue(node.module.startswith("turnhouse."), name)

    def test_no_other_name_of_pythons_own_is_read(self):
        for name, tree in trees():
            bound = names_bound(tree)
            for node in ast.walk(tree):
                if isinstance(node, ast.Name) and node.id not in bound:
                    self.assertIn(node.id, ALLOWED_NAMES, name)

    def test_sizes_and_signs(self):
        for path in files():
            text = path.read_text(encoding="utf-8")
            lines = text.split("\n")
            self.assertLessEqual(len(lines), 400, path.name)
            self.assertLessEqual(max(len(line) for line in lines), 120, path.name)
            self.assertEqual([sign for sign in text if not (" " <= sign <= "~" or sign == "\n")], [], path.name)

    def test_functions_are_short(self):
        for name, tree in trees():
            for node in ast.walk(tree):
                if isinstance(node, ast.FunctionDef):
                    self.assertLessEqual(node.end_lineno - node.lineno + 1, 40, f"{name}: {node.name}")


if __name__ == "__main__":
    unittest.main()
