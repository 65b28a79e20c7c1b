"""The package is written in the small language that it promises: what can be told from its files."""

import ast
import unittest
from pathlib import Path

PACKAGE = Path(__file__).resolve().parent.parent / "halfquick"
FILES = sorted(PACKAGE.glob("**/*.py"))
IMPORTS = {"itertools": {"combinations"}, "math": {"comb", "factorial"}}


class Language(unittest.TestCase):
    def test_only_python_files(self):
        others = [path for path in PACKAGE.iterdir() if path.suffix != ".py" and path.name != "__pycache__"]
        self.assertEqual(others, [])
        self.assertIn(PACKAGE / "__init__.py", FILES)

    def test_sizes_and_characters(self):
        for path in FILES:
            data = path.read_bytes()
            self.assertTrue(all(32 <= byte <= 126 or byte == 10 for byte in data), path)
            lines = data.split(b"\n")
            self.assertLess(len(lines), 400, path)
            self.assertLessEqual(max(map(len, lines)), 120, path)

    def test_short_functions(self):
        for path in FILES:
            for node in ast.walk(ast.parse(path.read_text())):
                if isinstance(node, ast.FunctionDef):
                    self.assertLessEqual(node.end_lineno - node.lineno + 1, 40, (path, node.name))

    def test_imports(self):
        for path in FILES:
            for node in ast.walk(ast.parse(path.read_text())):
                self.assertNotIsInstance(node, ast.Import)
                if isinstance(node, ast.ImportFrom) and not node.module.startswith("halfquick."):
                    names = {alias.name for alias in node.names}
                    self.assertLessEqual(names, IMPORTS.get(node.module, set()), path)


if __name__ == "__main__":
    unittest.main()
