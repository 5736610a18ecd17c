"""The rules of shared/LANGUAGE.md that a look at the files of the package can test."""

import ast
import builtins
import pathlib
import re
import unittest

ROOT = pathlib.Path(__file__).resolve().parent.parent
PACKAGE = ROOT / "leastmend"
FILES = sorted(path for path in PACKAGE.rglob("*.py"))

BUILTINS = set(
    "len range enumerate zip min max sum abs sorted reversed int str bool list tuple dict set isinstance ord repr any all "
    "divmod pow Exception ValueError TypeError KeyError IndexError LookupError ZeroDivisionError ArithmeticError "
    "OverflowError RuntimeError NotImplementedError NotImplemented iter next super".split())
LIBRARY = ["heapq", "math", "itertools", "collections"]
NEVER = (ast.Global, ast.AsyncFunctionDef, ast.AsyncFor, ast.AsyncWith, ast.Await, ast.Div, ast.MatMult, ast.Import)


def module_of(path):
    """Return the full name of the module of a file."""
    parts = list(path.relative_to(ROOT).with_suffix("").parts)
    return ".".join(parts[:-1] if parts[-1] == "__init__" else parts)


def imports_of(path):
    """Return the import statements of a file."""
    return [node for node in ast.walk(ast.parse(path.read_text())) if isinstance(node, ast.ImportFrom)]


class TheFiles(unittest.TestCase):
    def test_there_are_files(self):
        self.assertGreater(len(FILES), 3)
        self.assertLessEqual(len(FILES), 100)

    def test_the_package_holds_python_files_only(self):
        for path in PACKAGE.rglob("*"):
            if "__pycache__" in path.parts:
                continue
            if path.is_dir():
                self.assertTrue((path / "__init__.py").exists(), path)
            else:
                self.assertEqual(path.suffix, ".py", path)
            self.assertIsNotNone(re.fullmatch("[a-z][a-z0-9_]*|__init__", path.stem), path)
            self.assertFalse(path.stem.startswith("test"), path)

    def test_characters(self):
        for path in FILES:
            data = path.read_bytes()
            self.assertEqual([code for code in data if code != 10 and not 32 <= code <= 126], [], path)
            self.assertEqual([part for part in strings_of(path) if "%" in part], [], path)

    def test_sizes(self):
        for path in FILES:
            lines = path.read_text().split("\n")
            self.assertLessEqual(len(lines), 400, path)
            self.assertLessEqual(max(len(line) for line in lines), 120, path)
            for node in ast.walk(ast.parse(path.read_text())):
                if isinstance(node, ast.FunctionDef):
                    self.assertLessEqual(node.end_lineno - node.lineno + 1, 40, (path, node.name))


def strings_of(path):
    """Return the strings of a file, docstrings included."""
    nodes = [node for node in ast.walk(ast.parse(path.read_text())) if isinstance(node, ast.Constant)]
    return [node.value for node in nodes if isinstance(node.value, str)]


class TheCode(unittest.TestCase):
    def test_imports_name_the_file_that_defines_the_name(self):
        for path in FILES:
            for node in imports_of(path):
                self.assertEqual(node.level, 0, path)
                if node.module in LIBRARY:
                    continue
                self.assertTrue(node.module.startswith("leastmend."), (path, node.module))
                defining = ROOT / (node.module.replace(".", "/") + ".py")
                for alias in node.names:
                    self.assertIn(alias.name, bound_at_module_level(defining), (path, alias.name))

    def test_no_two_files_import_from_each_other(self):
        wanted = {module_of(path): {node.module for node in imports_of(path)} for path in FILES}
        while wanted:
            free = [module for module in wanted if not wanted[module] & set(wanted)]
            self.assertTrue(free, wanted)
            for module in free:
                del wanted[module]

    def test_only_the_allowed_builtins(self):
        for path in FILES:
            for node in ast.walk(ast.parse(path.read_text())):
                if isinstance(node, ast.Name) and hasattr(builtins, node.id):
                    self.assertIn(node.id, BUILTINS, (path, node.lineno))
                    self.assertIsInstance(node.ctx, ast.Load, (path, node.lineno))

    def test_statements_and_expressions(self):
        for path in FILES:
            for node in ast.walk(ast.parse(path.read_text())):
                self.assertNotIsInstance(node, NEVER, path)
                if isinstance(node, ast.Constant):
                    self.assertNotIsInstance(node.value, (float, complex), path)

    def test_module_level(self):
        for path in FILES:
            tree = ast.parse(path.read_text())
            for node in tree.body:
                self.assertIsInstance(node, (ast.Expr, ast.ImportFrom, ast.Assign, ast.FunctionDef, ast.ClassDef), path)
                if isinstance(node, ast.Expr):
                    self.assertIs(node, tree.body[0], (path, node.lineno))


def bound_at_module_level(path):
    """Return the names of the functions, classes and values that a file defines."""
    names = []
    for node in ast.parse(path.read_text()).body:
        if isinstance(node, (ast.FunctionDef, ast.ClassDef)):
            names.append(node.name)
        if isinstance(node, ast.Assign):
            names.extend(target.id for target in node.targets)
    return names


if __name__ == "__main__":
    unittest.main()
