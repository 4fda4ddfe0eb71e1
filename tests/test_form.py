"""The form of the package's files, as far as a short check can tell it."""

import ast
import builtins
import pathlib
import unittest

PACKAGE = pathlib.Path(__file__).resolve().parent.parent / "tandems"
LIBRARY = {"math", "heapq", "itertools", "collections"}


def files():
    return sorted(PACKAGE.rglob("*.py"))


def nodes(path):
    return ast.walk(ast.parse(path.read_text()))


class Form(unittest.TestCase):
    def test_files(self):
        self.assertIn(PACKAGE / "__init__.py", files())
        for path in PACKAGE.rglob("*"):
            if "__pycache__" not in path.parts:
                self.assertEqual(path.suffix, ".py", path)
                self.assertFalse(path.name.startswith("test"), path)

    def test_rows(self):
        for path in files():
            text = path.read_text()
            self.assertLess(len(text.split("\n")), 401, path)
            for row in text.split("\n"):
                self.assertLess(len(row), 121, (path, row))
                self.assertTrue(all([" " <= sign <= "~" for sign in row]), (path, row))

    def test_functions_are_short(self):
        for path in files():
            for node in nodes(path):
                if isinstance(node, ast.FunctionDef):
                    self.assertLess(node.end_lineno - node.lineno, 40, (path, node.name))

    def test_imports(self):
        for path in files():
            for node in nodes(path):
                self.assertNotIsInstance(node, ast.Import, path)
                if isinstance(node, ast.ImportFrom):
                    self.assertEqual(node.level, 0, path)
                    self.assertIn(node.module.split(".")[0], LIBRARY | {"tandems"}, path)

    def test_local_names(self):
        for path in files():
            taken = set(dir(builtins))
            for node in nodes(path):
                if isinstance(node, ast.ImportFrom):
                    taken.update([name.name for name in node.names])
                elif isinstance(node, ast.ClassDef):
                    taken.add(node.name)
            for node in nodes(path):
                if isinstance(node, ast.arg):
                    self.assertNotIn(node.arg, taken, path)
                elif isinstance(node, ast.Name) and isinstance(node.ctx, ast.Store):
                    self.assertNotIn(node.id, taken, path)

    def test_no_generators_and_lambdas(self):
        for path in files():
            for node in nodes(path):
                self.assertNotIsInstance(node, (ast.GeneratorExp, ast.Lambda, ast.Yield), path)

    def test_nothing_is_put_in_order(self):
        # Beside a class with an order these builtins take no list of its objects.
        for path in files():
            for node in nodes(path):
                if isinstance(node, ast.Call) and isinstance(node.func, ast.Name):
                    self.assertNotIn(node.func.id, ("sorted", "min", "max", "sum"), path)

    def test_no_floats(self):
        for path in files():
            for node in nodes(path):
                self.assertNotIsInstance(node, (ast.Div, ast.AsyncFunctionDef, ast.Global), path)
                if isinstance(node, ast.Constant):
                    self.assertNotIsInstance(node.value, (float, complex), path)
