"""The package is written in the small language that it promises: what can be told from its files."""

import ast
import unittest
from pathlib import Path

PACKAGE = Path(__file__).resolve().parent.parent / "halfquick"
FILES = sorted(PACKAGE.glob("**/*.py"))
IMPORTS = {"itertools": {"combinations"}, "math": {"comb", "factorial"}}


def nodes_of(kind):
    """All nodes of a kind in the files of the package."""
    return [node for path in FILES for node in ast.walk(ast.parse(path.read_text())) if isinstance(node, kind)]


def stored_names():
    """The names of the attributes that objects of the package store."""
    return {node.attr for node in nodes_of(ast.Attribute) if isinstance(node.ctx, ast.Store)}


def named_in(node):
    """All names that stand in a function, of variables as well as of attributes."""
    inside = list(ast.walk(node))
    names = {part.id for part in inside if isinstance(part, ast.Name)}
    return names | {part.attr for part in inside if isinstance(part, ast.Attribute)}


def run_by_properties():
    """The functions and methods that properties run, by name: the properties, and what bears a name that is in them.

    A name of a class stands for its `__init__`.
    """
    functions = {}
    for node in nodes_of(ast.FunctionDef):
        functions.setdefault(node.name, []).append(node)
    for node in nodes_of(ast.ClassDef):
        starts = [part for part in node.body if isinstance(part, ast.FunctionDef) and part.name == "__init__"]
        functions.setdefault(node.name, []).extend(starts)
    waiting = [node for node in nodes_of(ast.FunctionDef) if "property" in map(ast.unparse, node.decorator_list)]
    reached = {}
    while waiting:
        node = waiting.pop()
        if node.name not in reached:
            reached[node.name] = functions[node.name]
            waiting += [found for name in named_in(node) for found in functions.get(name, [])]
    return reached


class Language(unittest.TestCase):
    def test_only_python_files(self):
        others = [path for path in PACKAGE.iterdir() if path.suffix != ".py" and path.name != "__pycache__"]
        self.assertEqual(others, [])
        self.assertIn(PACKAGE / "__init__.py", FILES)

    def test_sizes_and_characters(self):
        for path in FILES:
            data = path.read_bytes()
            self.assertTrue(all(32 <= byte <= 126 or byte == 10 for byte in data), path)
            lines = data.split(b"\n")
            self.assertLess(len(lines), 400, path)
            self.assertLessEqual(max(map(len, lines)), 120, path)

    def test_short_functions(self):
        for path in FILES:
            for node in ast.walk(ast.parse(path.read_text())):
                if isinstance(node, ast.FunctionDef):
                    self.assertLessEqual(node.end_lineno - node.lineno + 1, 40, (path, node.name))

    def test_imports(self):
        for path in FILES:
            for node in ast.walk(ast.parse(path.read_text())):
                self.assertNotIsInstance(node, ast.Import)
                if isinstance(node, ast.ImportFrom) and not node.module.startswith("halfquick."):
                    names = {alias.name for alias in node.names}
                    self.assertLessEqual(names, IMPORTS.get(node.module, set()), path)

    def test_properties_call_nothing_that_bears_the_name_of_a_stored_attribute(self):
        stored = stored_names()
        self.assertLessEqual({"index", "place", "count", "passes", "line"}, stored)
        reached = run_by_properties()
        self.assertLessEqual({"needed", "waiting", "done", "row", "needed_places"}, set(reached))
        for name, nodes in reached.items():
            for call in [part for node in nodes for part in ast.walk(node) if isinstance(part, ast.Call)]:
                if isinstance(call.func, ast.Attribute):
                    self.assertNotIn(call.func.attr, stored, (name, ast.unparse(call)))


if __name__ == "__main__":
    unittest.main()
