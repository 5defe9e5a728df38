"""The rules of ../shared/LANGUAGE.md that can be read off the lines and the syntax tree of a file."""

import ast
import unittest
from pathlib import Path

FOLDER = Path(__file__).resolve().parent.parent / "mapsizes"
FILES = sorted(path for path in FOLDER.rglob("*") if path.is_file() and path.suffix != ".pyc")
LIBRARY = ("heapq", "math", "itertools")


def nodes(path, *kinds):
    return [node for node in ast.walk(ast.parse(path.read_text())) if isinstance(node, kinds)]


class TestLanguage(unittest.TestCase):
    def test_only_python_files(self):
        self.assertTrue(FILES)
        self.assertEqual([path.name for path in FILES if path.suffix != ".py"], [])

    def test_sizes_and_characters(self):
        for path in FILES:
            lines = path.read_text().split("\n")
            self.assertLessEqual(len(lines), 399, path)
            for line in lines:
                self.assertLessEqual(len(line), 120, (path, line))
                self.assertTrue(all(" " <= letter <= "~" for letter in line), (path, line))
            for node in nodes(path, ast.FunctionDef):
                self.assertLessEqual(node.end_lineno - node.lineno + 1, 40, (path, node.name))

    def test_imports_name_modules_of_the_package(self):
        for path in FILES:
            for node in nodes(path, ast.Import, ast.ImportFrom):
                self.assertIsInstance(node, ast.ImportFrom, path)
                self.assertEqual(node.level, 0, path)
                inside = node.module.startswith("mapsizes.")
                self.assertTrue(inside or node.module in LIBRARY, (path, node.module))

    def test_strings_without_percent_signs(self):
        for path in FILES:
            for node in nodes(path, ast.Constant):
                if isinstance(node.value, str):
                    self.assertNotIn("%", node.value, path)
