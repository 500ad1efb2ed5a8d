"""The interface's names and arguments, and those rules of the language that can be seen from the files."""

import ast
import builtins
import inspect
import unittest
from importlib import import_module
from pathlib import Path

FOLDER = Path(__file__).resolve().parent.parent / "beatnet"
FILES = sorted(path for path in FOLDER.rglob("*") if path.is_file() and "__pycache__" not in path.parts)

INTERFACE = {
    "nets": {
        "is_net": ["thing"], "is_parting": ["net", "thing"], "near": ["net", "hand"], "far": ["net", "hand"],
        "parents": ["net", "parting"], "heights": ["net", "parting"], "chosen": ["net", "parting"], "singles": ["net"],
        "whole": ["net"], "grown": ["net", "k"],
    },
    "programs": {
        "is_program": ["thing"], "plain": ["net", "program", "beats"], "letters": ["net", "program", "beats"],
        "step": ["net", "program", "hand", "beat", "registers", "came"],
    },
    "halls": {"Hall": ["net", "program", "beats", "way"], "formula": ["net", "way", "words"]},
    "ticks": {
        "ticks": ["net", "program", "beats", "way"], "price": ["net", "program", "beats", "way", "letter", "tick"],
        "best": ["net", "program", "beats", "ways", "letter", "tick"],
    },
    "roads": {
        "play": ["hall", "numbers"], "drive": ["hall", "picks", "most"], "skew": ["hall"], "held": ["hall"],
        "is_tale": ["net", "tale", "beats"],
    },
    "texts": {
        "show_net": ["net"], "show_parting": ["parting"], "show_program": ["program"], "read_net": ["text"],
        "read_parting": ["text"], "read_program": ["text"],
    },
}

HALL = {
    "deliver": ["number"], "fall": ["hand"], "beat": ["hand"], "row": ["hand"], "sent": [], "waiting": [], "counts": [],
    "begun": [], "net": [], "last": [], "has_fallen": ["hand"],
}

ALLOWED_BUILTINS = (
    "len range enumerate zip min max sum abs sorted reversed int str bool bytes list tuple dict set frozenset isinstance ord "
    "repr any all divmod pow getattr hasattr setattr Exception ValueError TypeError KeyError IndexError LookupError "
    "ZeroDivisionError ArithmeticError OverflowError RuntimeError NotImplementedError AttributeError StopIteration "
    "NotImplemented super property staticmethod classmethod iter next map type"
).split()

BARRED_NODES = (
    ast.AsyncFunctionDef, ast.AsyncFor, ast.AsyncWith, ast.Await, ast.Import, ast.Div, ast.MatMult, ast.ImportFrom,
)


def trees():
    return [(path, ast.parse(path.read_text())) for path in FILES]


class TestInterface(unittest.TestCase):
    def test_names_and_arguments(self):
        for file, functions in INTERFACE.items():
            module = import_module("beatnet." + file)
            for name, arguments in functions.items():
                function = getattr(module, name)
                self.assertEqual(function.__module__, "beatnet." + file)
                self.assertEqual(list(inspect.signature(function).parameters), arguments)

    def test_defaults(self):
        for file, functions in INTERFACE.items():
            for name in functions:
                for word, argument in inspect.signature(getattr(import_module("beatnet." + file), name)).parameters.items():
                    if (name, word) == ("drive", "most"):
                        self.assertEqual((argument.default, argument.kind), (5000, inspect.Parameter.KEYWORD_ONLY))
                    else:
                        self.assertIs(argument.default, inspect.Parameter.empty)
                        self.assertEqual(argument.kind, inspect.Parameter.POSITIONAL_OR_KEYWORD)

    def test_methods_of_a_hall_stand_in_the_class_itself(self):
        hall = import_module("beatnet.halls").Hall
        self.assertEqual(hall.__bases__, (object,))
        for name, arguments in HALL.items():
            self.assertTrue(inspect.isfunction(vars(hall)[name]))
            self.assertEqual(list(inspect.signature(vars(hall)[name]).parameters), ["self"] + arguments)


class TestLanguage(unittest.TestCase):
    def test_files(self):
        for path in FILES:
            self.assertEqual(path.suffix, ".py", path)
            self.assertEqual(path.name, path.name.lower())
        self.assertIn(FOLDER / "__init__.py", FILES)

    def test_sizes_and_characters(self):
        for path in FILES:
            text = path.read_text()
            rows = text.split("\n")
            self.assertLessEqual(len(rows), 399, path)
            self.assertLessEqual(max(len(row) for row in rows), 120, path)
            self.assertTrue(all(sign == "\n" or " " <= sign <= "~" for sign in text), path)

    def test_functions(self):
        for path, tree in trees():
            for node in ast.walk(tree):
                if isinstance(node, ast.FunctionDef):
                    self.assertLessEqual(node.end_lineno - node.lineno + 1, 40, (path, node.name))

    def test_module_level(self):
        kinds = (ast.FunctionDef, ast.ClassDef, ast.Assign, ast.ImportFrom)
        for path, tree in trees():
            for node in tree.body:
                docstring = isinstance(node, ast.Expr) and isinstance(node.value, ast.Constant)
                self.assertTrue(docstring or isinstance(node, kinds), (path, node.lineno))

    def test_imports(self):
        for path, tree in trees():
            for node in ast.walk(tree):
                if isinstance(node, ast.ImportFrom):
                    self.assertTrue(node.module.startswith("beatnet.") and node.level == 0, (path, node.lineno))
                    module = import_module(node.module)
                    for alias in node.names:
                        self.assertIsNone(alias.asname)
                        thing = getattr(module, alias.name)
                        self.assertEqual(getattr(thing, "__module__", node.module), node.module, (path, alias.name))
                else:
                    self.assertNotIsInstance(node, BARRED_NODES, path)

    def test_names(self):
        names = {name for name in dir(builtins)}
        for path, tree in trees():
            for node in ast.walk(tree):
                if isinstance(node, ast.Name):
                    if isinstance(node.ctx, ast.Load):
                        self.assertTrue(node.id not in names or node.id in ALLOWED_BUILTINS, (path, node.id))
                    else:
                        self.assertNotIn(node.id, names, path)
                if isinstance(node, ast.arg):
                    self.assertNotIn(node.arg, names, path)
                if isinstance(node, (ast.FunctionDef, ast.ClassDef)):
                    self.assertNotIn(node.name, names, path)

    def test_no_floats_and_no_bound_sets(self):
        for path, tree in trees():
            for node in ast.walk(tree):
                if isinstance(node, ast.Constant):
                    self.assertNotIsInstance(node.value, (float, complex), path)
                if isinstance(node, (ast.Global, ast.Lambda, ast.Set, ast.SetComp)):
                    self.fail((path, node.lineno))


if __name__ == "__main__":
    unittest.main()
