"""More rules of the language: names, calls, errors, sets, and what is iterated on the spot."""

import ast
import builtins
import io
import re
import tokenize
import unittest

from test_language import trees

BUILTINS = set("len range enumerate zip min max sum abs sorted reversed int str bool bytes list tuple dict set "
               "frozenset isinstance ord repr any all divmod iter next".split())
ERRORS = {"Exception", "ValueError", "TypeError", "KeyError", "IndexError", "LookupError", "ZeroDivisionError"}
METHODS = set("append clear copy count endswith extend find get index insert isalnum isalpha isdigit islower isspace "
              "isupper items join keys ljust lower lstrip partition pop remove replace reverse rfind rjust rpartition "
              "rsplit rstrip setdefault split splitlines startswith strip update upper values zfill bit_length".split())
NO_ATTRIBUTES = set("items keys values pop update append clear extend insert remove reverse setdefault sort args "
                    "encode decode hex fromhex format format_map mro".split())
NOWHERE = set("register mro elements open input law version_info with_traceback add_note".split())
NO_VARIABLES = set("attrgetter breakpoint builtins compile copyright credits delattr dir eval exec exit gc getattr "
                   "globals hasattr help id importlib license locals methodcaller os quit setattr super type vars "
                   "sys".split())
JUDGED = ("int", "str", "bool", "list", "tuple", "dict")
AT_ONCE = {"zip", "enumerate", "reversed", "range"}
VIEWS = {"items", "keys", "values"}
TAKERS = {"list", "tuple", "dict", "sorted", "sum", "any", "all", "enumerate", "zip", "min", "max", "len", "reversed"}
KEYWORDS = {"sorted": {"key", "reverse"}, "min": {"key", "default"}, "max": {"key", "default"}, "sum": {"start"},
            "enumerate": {"start"}, "zip": {"strict"}}


def nodes(*kinds):
    """All nodes of these kinds: (file, node)."""
    return [(path, node) for path, tree in trees() for node in ast.walk(tree) if isinstance(node, kinds)]


def parents(tree):
    return {child: node for node in ast.walk(tree) for child in ast.iter_child_nodes(node)}


def functions_of(tree):
    return [node for node in ast.walk(tree) if isinstance(node, (ast.FunctionDef, ast.Lambda))]


def locals_of(function):
    """The parameters of a function and the names that are assigned in it."""
    found = [item.arg for item in ast.walk(function.args) if isinstance(item, ast.arg)]
    for node in ast.walk(function):
        if isinstance(node, ast.Name) and isinstance(node.ctx, (ast.Store, ast.Del)):
            found.append(node.id)
        if isinstance(node, ast.ExceptHandler) and node.name:
            found.append(node.name)
        if isinstance(node, ast.FunctionDef) and node is not function:
            found.append(node.name)
    return found


def module_names(tree):
    """The names that are bound at module level."""
    found = []
    for node in tree.body:
        if isinstance(node, (ast.FunctionDef, ast.ClassDef)):
            found.append(node.name)
        elif isinstance(node, ast.ImportFrom):
            found.extend(alias.asname or alias.name for alias in node.names)
        elif isinstance(node, ast.Assign):
            found.extend(target.id for target in node.targets)
    return found


def own_classes():
    return {node.name for path, node in nodes(ast.ClassDef)}


def own_methods():
    return {item.name for path, node in nodes(ast.ClassDef) for item in node.body if isinstance(item, ast.FunctionDef)}


def stored_attributes():
    return {node.attr for path, node in nodes(ast.Attribute) if isinstance(node.ctx, ast.Store)}


class Names(unittest.TestCase):

    def test_each_name_is_bound_once(self):
        for path, tree in trees():
            names = module_names(tree)
            self.assertEqual(len(names), len(set(names)), path)
            shadowed = set(names) & set(dir(builtins))
            self.assertEqual(shadowed, set(), path)

    def test_locals_have_no_name_of_a_class_an_import_or_a_builtin(self):
        for path, tree in trees():
            barred = {node.name for node in tree.body if isinstance(node, ast.ClassDef)} | set(dir(builtins))
            barred |= {alias.name for node in tree.body if isinstance(node, ast.ImportFrom) for alias in node.names}
            for function in functions_of(tree):
                self.assertEqual(set(locals_of(function)) & (barred | NO_VARIABLES | NOWHERE), set(), path)

    def test_names_that_are_used_nowhere(self):
        for path, tree in trees():
            for node in ast.walk(tree):
                for field in ("id", "attr", "arg", "name"):
                    self.assertNotIn(getattr(node, field, None), NOWHERE, path)

    def test_attributes(self):
        stored = stored_attributes()
        self.assertEqual(stored & NO_ATTRIBUTES, set())
        self.assertEqual(stored & own_methods(), set())
        read = {node.attr for path, node in nodes(ast.Attribute) if isinstance(node.ctx, ast.Load)}
        self.assertEqual(read - stored - own_methods() - METHODS, set())

    def test_generators_have_names_of_their_own(self):
        generators = {function.name for path, tree in trees() for function in functions_of(tree)
                      if isinstance(function, ast.FunctionDef)
                      and any(isinstance(node, (ast.Yield, ast.YieldFrom)) for node in ast.walk(function))}
        names = [node.name for path, node in nodes(ast.FunctionDef)]
        self.assertEqual([name for name in generators if names.count(name) > 1], [])

    def test_no_function_name_is_also_a_class(self):
        self.assertEqual(own_classes() & {node.name for path, node in nodes(ast.FunctionDef)}, set())


class Calls(unittest.TestCase):

    def test_builtins_and_methods(self):
        methods = own_methods()
        for path, tree in trees():
            known = set(module_names(tree)) | BUILTINS
            for node in ast.walk(tree):
                if isinstance(node, ast.Call) and isinstance(node.func, ast.Name):
                    name = node.func.id
                    inside = {local for function in functions_of(tree) for local in locals_of(function)}
                    self.assertTrue(name in known | inside | {"TypeError"}, f"{path}: {name}")
                elif isinstance(node, ast.Call):
                    self.assertIsInstance(node.func, ast.Attribute, path)
                    self.assertTrue(node.func.attr in methods | METHODS, f"{path}: {node.func.attr}")

    def test_keywords_of_builtins(self):
        methods = own_methods()
        for path, node in nodes(ast.Call):
            keywords = {keyword.arg for keyword in node.keywords}
            if isinstance(node.func, ast.Name) and node.func.id in BUILTINS:
                self.assertLessEqual(keywords, KEYWORDS.get(node.func.id, set()), path)
            if isinstance(node.func, ast.Attribute) and node.func.attr not in methods:
                self.assertEqual(keywords, set(), path)

    def test_builtins_and_methods_are_called_and_not_stored(self):
        for path, tree in trees():
            around = parents(tree)
            for node in ast.walk(tree):
                if isinstance(node, ast.Name) and node.id in BUILTINS:
                    parent = around[node]
                    called = isinstance(parent, ast.Call) and parent.func is node
                    judged = isinstance(parent, (ast.Call, ast.Tuple)) and node.id in JUDGED
                    self.assertTrue(called or judged or isinstance(parent, ast.keyword), f"{path}: {node.id}")

    def test_iterated_on_the_spot(self):
        for path, tree in trees():
            around = parents(tree)
            for node in ast.walk(tree):
                if isinstance(node, ast.Call) and (
                        isinstance(node.func, ast.Name) and node.func.id in AT_ONCE
                        or isinstance(node.func, ast.Attribute) and node.func.attr in VIEWS):
                    parent = around[node]
                    looped = isinstance(parent, (ast.For, ast.comprehension)) and parent.iter is node
                    taken = isinstance(parent, ast.Call) and isinstance(parent.func,
                                                                        ast.Name) and parent.func.id in TAKERS
                    self.assertTrue(looped or taken, f"{path}:{node.lineno}")

    def test_reversed_takes_only_plain_lists(self):
        for path, node in nodes(ast.Call):
            if isinstance(node.func, ast.Name) and node.func.id == "reversed":
                inner = node.args[0]
                self.assertTrue(isinstance(inner, ast.Call) and inner.func.id in ("list", "tuple", "sorted", "range"),
                                path)

    def test_no_method_sort(self):
        for path, node in nodes(ast.Attribute):
            self.assertNotEqual(node.attr, "sort", path)

    def test_sets_are_used_on_the_spot(self):
        for path, tree in trees():
            around = parents(tree)
            for node in ast.walk(tree):
                made = isinstance(node, ast.Call) and isinstance(node.func, ast.Name) and node.func.id == "set"
                if made or isinstance(node, (ast.Set, ast.SetComp)):
                    parent = around[node]
                    taken = isinstance(parent, ast.Call) and parent.func.id in ("sorted", "len") and not parent.keywords
                    self.assertTrue(taken or isinstance(parent, ast.Compare), f"{path}:{node.lineno}")


class Statements(unittest.TestCase):

    def test_decorators(self):
        for path, node in nodes(ast.FunctionDef, ast.ClassDef):
            names = [item.id if isinstance(item, ast.Name) else item.attr for item in node.decorator_list]
            self.assertLessEqual(set(names), {"property", "setter", "classmethod", "staticmethod"}, path)
            self.assertLessEqual(len(names), 1, path)

    def test_errors_are_created_where_they_are_raised(self):
        errors = {node.name for path, node in nodes(ast.ClassDef) if path.stem == "errors"}
        for path, node in nodes(ast.Raise):
            self.assertTrue(isinstance(node.exc, ast.Call) and isinstance(node.exc.func, ast.Name), path)
            self.assertIn(node.exc.func.id, errors | {"TypeError"}, path)

    def test_only_own_errors_are_caught(self):
        errors = {node.name for path, node in nodes(ast.ClassDef) if path.stem == "errors"}
        for path, tree in trees():
            for function in functions_of(tree):
                named = [node.name for node in ast.walk(function) if isinstance(node, ast.ExceptHandler) and node.name]
                self.assertEqual(len(named), len(set(named)), path)
        for path, node in nodes(ast.ExceptHandler):
            caught = node.type.elts if isinstance(node.type, ast.Tuple) else [node.type]
            for item in caught:
                self.assertIn(item.id, errors | {"KeyError"}, path)

    def test_no_finally_no_with_no_annotation(self):
        for path, node in nodes(ast.Try, ast.With, ast.arg, ast.FunctionDef):
            self.assertNotIsInstance(node, ast.With, path)
            self.assertFalse(getattr(node, "finalbody", []), path)
            self.assertIsNone(getattr(node, "annotation", None), path)
            self.assertIsNone(getattr(node, "returns", None), path)

    def test_values_at_module_level_are_plain(self):
        plain = (ast.Constant, ast.Tuple, ast.Dict, ast.List, ast.Name, ast.Load)
        for path, tree in trees():
            for node in tree.body:
                if isinstance(node, ast.Assign):
                    self.assertEqual(len(node.targets), 1, path)
                    for inner in ast.walk(node.value):
                        self.assertIsInstance(inner, plain, path)
                        if isinstance(inner, (ast.Dict, ast.List)):
                            self.assertIs(inner, node.value, path)
                else:
                    self.assertIsInstance(node, (ast.Expr, ast.ImportFrom, ast.FunctionDef, ast.ClassDef), path)

    def test_module_level_lists_and_dicts_are_only_read(self):
        for path, tree in trees():
            held = {node.targets[0].id for node in tree.body if isinstance(node, ast.Assign)
                    and isinstance(node.value, (ast.Dict, ast.List))}
            around = parents(tree)
            for node in ast.walk(tree):
                if isinstance(node, ast.Name) and node.id in held and isinstance(node.ctx, ast.Load):
                    parent = around[node]
                    read = isinstance(parent, ast.Subscript) and isinstance(parent.ctx, ast.Load)
                    asked = isinstance(parent, ast.Attribute) and parent.attr in ("get", "items", "keys", "values")
                    self.assertTrue(read or asked or isinstance(parent, (ast.Compare, ast.For, ast.comprehension))
                                    or isinstance(parent, ast.Call) and parent.func.id in ("len", "list", "dict"),
                                    f"{path}:{node.lineno}")

    def test_what_a_loop_iterates_over_is_not_changed_in_it(self):
        for path, node in nodes(ast.For):
            if isinstance(node.iter, (ast.Name, ast.Attribute)):
                looped = ast.dump(node.iter)
                for inner in ast.walk(node):
                    if isinstance(inner, ast.Call) and isinstance(inner.func, ast.Attribute):
                        if inner.func.attr in ("append", "extend", "pop", "insert", "remove", "clear"):
                            self.assertNotEqual(ast.dump(inner.func.value), looped, f"{path}:{inner.lineno}")

    def test_special_methods(self):
        for path, node in nodes(ast.FunctionDef):
            last = node.body[-1]
            if node.name == "__len__":
                self.assertTrue(isinstance(last, ast.Return) and last.value.func.id == "len", path)
            if node.name == "__init__":
                self.assertFalse([inner for inner in ast.walk(node) if isinstance(inner, ast.Return)], path)
            if node.name in ("__or__", "__and__", "__sub__", "__contains__", "__bool__", "__eq__", "__getitem__"):
                stores = [inner for inner in ast.walk(node) if isinstance(inner, (ast.Attribute, ast.Subscript))
                          and isinstance(inner.ctx, ast.Store)]
                self.assertEqual(stores, [], path)
                self.assertEqual(len(node.args.args), 1 if node.name == "__bool__" else 2, path)
        for path, node in nodes(ast.ClassDef):
            names = {item.name for item in node.body if isinstance(item, ast.FunctionDef)}
            self.assertTrue("__getitem__" not in names or "__iter__" in names, path)

    def test_strings_and_tokens(self):
        for path, tree in trees():
            for token in tokenize.generate_tokens(io.StringIO(path.read_text()).readline):
                if token.type == tokenize.STRING:
                    self.assertEqual(re.findall(r"\\[^nt\\'\"]", token.string), [], path)
                    self.assertFalse(token.string.strip("\"'").endswith(("._", ".__")), path)
        for path, node in nodes(ast.BinOp):
            self.assertFalse(isinstance(node.op, ast.Pow), path)

    def test_no_two_files_import_from_each_other(self):
        uses = {path.stem: {node.module.split(".")[1] for node in tree.body if isinstance(node, ast.ImportFrom)}
                for path, tree in trees()}
        reached = {}
        for name in uses:
            found = list(uses[name])
            for other in found:
                found.extend(item for item in uses[other] if item not in found)
            reached[name] = found
        for name, found in reached.items():
            self.assertNotIn(name, found)


if __name__ == "__main__":
    unittest.main()
