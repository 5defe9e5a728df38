"""The rules of ../shared/LANGUAGE.md that can be read off the lines and the syntax tree of a file."""

import ast
import builtins
import unittest
from pathlib import Path

FOLDER = Path(__file__).resolve().parent.parent / "mapsizes"
FILES = sorted(path for path in FOLDER.rglob("*") if path.is_file() and path.suffix != ".pyc")
LIBRARY = ("heapq", "math", "itertools")
BUILTINS = {
    "len", "range", "enumerate", "zip", "min", "max", "sum", "abs", "sorted", "reversed", "int", "str", "bool", "list",
    "tuple", "dict", "set", "isinstance", "ord", "repr", "any", "all", "divmod", "ValueError", "TypeError",
    "LookupError",
}
DECORATORS = {"property", "classmethod", "staticmethod"}
BARRED_NAMES = {"register", "mro", "elements", "open", "input", "law", "format", "type", "typing", "id", "vars"}


def nodes(path, *kinds):
    return [node for node in ast.walk(ast.parse(path.read_text())) if isinstance(node, kinds)]


def nodes_below(node, *kinds):
    return [found for found in ast.walk(node) if isinstance(found, kinds)]


def module_of(path):
    return "mapsizes." + path.stem


def imports_of(path):
    """The modules of the package that a file imports from, and the names."""
    found = nodes(path, ast.ImportFrom)
    return [(node.module, [alias.name for alias in node.names]) for node in found]


def bound_names(path):
    """All names that a file binds, but for attributes and imports."""
    found = [node.id for node in nodes(path, ast.Name) if isinstance(node.ctx, ast.Store)]
    found += [node.arg for node in nodes(path, ast.arg)]
    found += [node.name for node in nodes(path, ast.ExceptHandler) if node.name]
    methods = [item for node in nodes(path, ast.ClassDef) for item in node.body]
    names = [node.name for node in nodes(path, ast.FunctionDef, ast.ClassDef)]
    for method in methods:
        if isinstance(method, ast.FunctionDef):
            names.remove(method.name)
    return found + names


class TestLanguage(unittest.TestCase):
    def test_only_python_files(self):
        self.assertTrue(FILES)
        self.assertEqual([path.name for path in FILES if path.suffix != ".py"], [])

    def test_sizes_and_characters(self):
        for path in FILES:
            lines = path.read_text().split("\n")
            self.assertLessEqual(len(lines), 399, path)
            for line in lines:
                self.assertLessEqual(len(line), 120, (path, line))
                self.assertTrue(all(" " <= letter <= "~" for letter in line), (path, line))
            for node in nodes(path, ast.FunctionDef):
                self.assertLessEqual(node.end_lineno - node.lineno + 1, 40, (path, node.name))

    def test_imports_name_modules_of_the_package(self):
        for path in FILES:
            for node in nodes(path, ast.Import, ast.ImportFrom):
                self.assertIsInstance(node, ast.ImportFrom, path)
                self.assertEqual(node.level, 0, path)
                inside = node.module.startswith("mapsizes.")
                self.assertTrue(inside or node.module in LIBRARY, (path, node.module))

    def test_imports_name_the_file_that_defines_and_are_used(self):
        defined = {module_of(path): bound_names(path) for path in FILES}
        for path in FILES:
            read = {node.id for node in nodes(path, ast.Name) if isinstance(node.ctx, ast.Load)}
            for module, names in imports_of(path):
                for name in names:
                    self.assertIn(name, defined[module], (path, name))
                    self.assertIn(name, read, (path, name))
                    self.assertNotIn(name, bound_names(path), (path, name))

    def test_no_two_files_import_from_each_other(self):
        left = {module_of(path): {module for module, _ in imports_of(path)} for path in FILES}
        while left:
            free = [module for module in left if not left[module] & set(left)]
            self.assertTrue(free, left)
            left = {module: left[module] for module in left if module not in free}

    def test_builtins_and_names(self):
        for path in FILES:
            bound = bound_names(path)
            imported = [name for _, names in imports_of(path) for name in names]
            for name in bound:
                self.assertNotIn(name, dir(builtins), (path, name))
                self.assertNotIn(name, BARRED_NAMES, (path, name))
                self.assertFalse(name.startswith("__"), (path, name))
            for node in nodes(path, ast.Name):
                if node.id not in bound and node.id not in imported and node.id not in DECORATORS:
                    self.assertIn(node.id, BUILTINS, (path, node.lineno))
            self.assertEqual([node.id for node in nodes(path, ast.Name) if node.id == "_"
                              and isinstance(node.ctx, ast.Load)], [], path)

    def test_statements(self):
        for path in FILES:
            for node in ast.parse(path.read_text()).body:
                kinds = (ast.Expr, ast.ImportFrom, ast.FunctionDef, ast.ClassDef, ast.Assign)
                self.assertIsInstance(node, kinds, (path, node.lineno))
                if isinstance(node, ast.Expr):
                    self.assertIsInstance(node.value, ast.Constant, (path, node.lineno))
            self.assertEqual(nodes(path, ast.Global, ast.AsyncFunctionDef, ast.GeneratorExp, ast.NamedExpr), [], path)
            for node in nodes(path, ast.FunctionDef, ast.ClassDef):
                for decorator in node.decorator_list:
                    self.assertIn(decorator.id, DECORATORS, (path, node.name))

    def test_sets_stand_only_in_sorted(self):
        for path in FILES:
            allowed = [node.args[0] for node in nodes(path, ast.Call)
                       if isinstance(node.func, ast.Name) and node.func.id == "sorted"]
            allowed = [ast.dump(node) for node in allowed]
            for node in nodes(path, ast.Set, ast.SetComp):
                self.assertIn(ast.dump(node), allowed, (path, node.lineno))
            for node in nodes(path, ast.Call):
                if isinstance(node.func, ast.Name) and node.func.id == "set":
                    self.assertIn(ast.dump(node), allowed, (path, node.lineno))

    def test_is_only_with_none_true_and_false(self):
        for path in FILES:
            for node in nodes(path, ast.Compare):
                if isinstance(node.ops[0], (ast.Is, ast.IsNot)):
                    self.assertIsInstance(node.comparators[0], ast.Constant, (path, node.lineno))

    def test_stars_in_calls_stand_before_names(self):
        for path in FILES:
            for node in nodes(path, ast.Call):
                for item in node.args:
                    if isinstance(item, ast.Starred):
                        self.assertIsInstance(item.value, (ast.Name, ast.Attribute), (path, node.lineno))
                self.assertEqual([word.arg for word in node.keywords if word.arg is None], [], path)

    def test_with_and_handlers(self):
        for path in FILES:
            for node in nodes(path, ast.With):
                self.assertIsInstance(node.items[0].context_expr, ast.Call, (path, node.lineno))
            for node in nodes(path, ast.ExceptHandler):
                for name in nodes_below(node.type, ast.Name):
                    self.assertNotIn(name.id, dir(builtins), (path, node.lineno))
            for node in nodes(path, ast.Raise):
                self.assertIsInstance(node.exc, ast.Call, (path, node.lineno))
            for node in nodes(path, ast.FunctionDef):
                if node.name == "__exit__":
                    self.assertEqual({type(row) for row in node.body}, {ast.Assign}, path)
                    self.assertEqual(nodes_below(node, ast.BinOp, ast.Compare, ast.Call), [], path)

    def test_strings_without_percent_signs(self):
        for path in FILES:
            for node in nodes(path, ast.Constant):
                if isinstance(node.value, str):
                    self.assertNotIn("%", node.value, path)

    def test_no_method_has_the_name_of_an_attribute(self):
        methods, attributes = set(), set()
        for path in FILES:
            for owner in nodes(path, ast.ClassDef):
                methods |= {node.name for node in owner.body if isinstance(node, ast.FunctionDef)}
            attributes |= {node.attr for node in nodes(path, ast.Attribute) if isinstance(node.ctx, ast.Store)}
        self.assertEqual(methods & attributes, set())
        self.assertEqual((methods | attributes) & {"items", "keys", "values", "pop", "update", "append", "sort"}, set())
