"""Those rules of the language that the text of the package shows at once."""

import ast
import pathlib
import re
import unittest

PACKAGE = pathlib.Path(__file__).resolve().parent.parent / "calledanew"
BARRED = re.compile(r"\b(type|typing|typing_extensions|enum|Enum|Flag|Generic|Protocol|ABC|namedtuple|NamedTuple)\b"
                    r"|dataclass|overload|contextmanager")
ONLY_LISTS = ("any", "all", "sum", "min", "max", "sorted")
OWN = {"__init__", "__eq__", "__repr__", "__str__", "__len__", "__call__", "__iter__", "__contains__", "__getitem__",
       "__setitem__", "__bool__", "__or__", "__and__", "__sub__", "__ior__"}


def files():
    return sorted(PACKAGE.rglob("*.py"))


def trees():
    return [(path, ast.parse(path.read_text())) for path in files()]


class Language(unittest.TestCase):

    def test_the_folder_holds_nothing_else(self):
        for path in PACKAGE.rglob("*"):
            if path.name != "__pycache__" and path.suffix != ".pyc":
                self.assertTrue(path.is_dir() or re.fullmatch(r"[a-z0-9_]+\.py", path.name), path)
        self.assertTrue((PACKAGE / "__init__.py").is_file())

    def test_sizes_and_characters(self):
        for path in files():
            lines = path.read_text().split("\n")
            self.assertLessEqual(len(lines) - 1, 399, path)
            for number, line in enumerate(lines, start=1):
                where = f"{path}:{number}"
                self.assertLessEqual(len(line), 120, where)
                self.assertTrue(all(" " <= letter <= "~" for letter in line), where)
                self.assertIsNone(BARRED.search(line), where)

    def test_functions_have_at_most_forty_lines(self):
        for path, tree in trees():
            for node in ast.walk(tree):
                if isinstance(node, ast.FunctionDef):
                    self.assertLessEqual(node.end_lineno - node.lineno + 1, 40, f"{path}: {node.name}")

    def test_imports_are_from_the_package_alone(self):
        for path, tree in trees():
            for node in ast.walk(tree):
                self.assertNotIsInstance(node, ast.Import, path)
                if isinstance(node, ast.ImportFrom):
                    self.assertEqual(node.level, 0, path)
                    self.assertTrue(node.module.startswith("calledanew."), path)

    def test_each_import_names_the_file_that_defines_the_name(self):
        bound = {}
        for path, tree in trees():
            names = [node.name for node in tree.body if isinstance(node, (ast.FunctionDef, ast.ClassDef))]
            names += [target.id for node in tree.body if isinstance(node, ast.Assign) for target in node.targets]
            self.assertEqual(len(names), len(set(names)), path)
            bound["calledanew." + path.stem] = names
        for path, tree in trees():
            for node in tree.body:
                for alias in node.names if isinstance(node, ast.ImportFrom) else []:
                    self.assertIn(alias.name, bound[node.module], path)

    def test_plain_names(self):
        for path, tree in trees():
            for node in ast.walk(tree):
                for field in ("id", "attr", "arg", "name"):
                    name = getattr(node, field, None)
                    if isinstance(name, str):
                        self.assertTrue(name in OWN or not name.startswith("_"), f"{path}: {name}")

    def test_no_statement_or_expression_that_is_left_out(self):
        barred = (ast.Global, ast.AsyncFunctionDef, ast.Await, ast.Div, ast.AnnAssign)
        for path, tree in trees():
            for node in ast.walk(tree):
                self.assertNotIsInstance(node, barred, path)
                if isinstance(node, ast.Constant):
                    self.assertNotIsInstance(node.value, (float, complex), path)
                    self.assertFalse(isinstance(node.value, str) and "%" in node.value, path)
                if isinstance(node, ast.Compare) and isinstance(node.ops[0], (ast.Is, ast.IsNot)):
                    self.assertTrue(isinstance(node.comparators[0], ast.Constant), path)

    def test_these_builtins_take_lists(self):
        for path, tree in trees():
            for node in ast.walk(tree):
                if isinstance(node, ast.Call) and isinstance(node.func, ast.Name) and node.func.id in ONLY_LISTS:
                    self.assertFalse(any(isinstance(item, ast.GeneratorExp) for item in node.args), path)

    def test_no_name_is_a_method_and_an_attribute(self):
        methods, attributes = set(), set()
        for path, tree in trees():
            for node in ast.walk(tree):
                if isinstance(node, ast.ClassDef):
                    methods |= {item.name for item in node.body if isinstance(item, ast.FunctionDef)}
                if isinstance(node, ast.Attribute) and isinstance(node.ctx, ast.Store):
                    attributes.add(node.attr)
        self.assertEqual(methods & attributes, set())


if __name__ == "__main__":
    unittest.main()
