"""The form of the package's files, as far as it can be told without reading them."""

import ast
import unittest
from pathlib import Path

FOLDER = Path(__file__).resolve().parent.parent / "fullpanes"
LIBRARY = ["heapq", "math", "itertools", "collections", "__future__"]


def package_files():
    return sorted(path for path in FOLDER.iterdir() if path.name != "__pycache__")


def parts_of(path, kinds):
    return [node for node in ast.walk(ast.parse(path.read_text())) if isinstance(node, kinds)]


class Form(unittest.TestCase):
    def test_the_package_holds_python_files_alone(self):
        self.assertIn(FOLDER / "__init__.py", package_files())
        for path in package_files():
            self.assertEqual((path.is_file(), path.suffix), (True, ".py"), path)

    def test_signs_and_lines(self):
        for path in package_files():
            lines = path.read_bytes().decode("ascii").split("\n")
            self.assertLessEqual(len(lines), 400, path)
            for line in lines:
                self.assertLessEqual(len(line), 120, path)
                self.assertTrue(all(" " <= sign <= "~" for sign in line), (path, line))

    def test_functions_are_small(self):
        for path in package_files():
            for node in parts_of(path, ast.FunctionDef):
                self.assertLessEqual(node.end_lineno - node.lineno + 1, 40, (path, node.name))

    def test_imports_are_of_the_package_and_the_told_library(self):
        for path in package_files():
            self.assertEqual(parts_of(path, ast.Import), [], path)
            for node in parts_of(path, ast.ImportFrom):
                self.assertTrue(node.module.startswith("fullpanes.") or node.module in LIBRARY, (path, node.module))

    def test_no_numbers_with_a_point(self):
        for path in package_files():
            self.assertEqual(parts_of(path, ast.Div), [], path)
            for node in parts_of(path, ast.Constant):
                self.assertNotIsInstance(node.value, float, path)


if __name__ == "__main__":
    unittest.main()
