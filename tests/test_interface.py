"""The interface: names, arguments, and where each thing is defined."""

import inspect
import unittest

from calledanew import errors, parts, rules

METHODS = {"__init__": ["self", "words", "inputs", "events", "rows"], "__eq__": None, "slots": ["self"],
           "hooks": ["self"], "functions": ["self"], "held": ["self", "path"], "links": ["self", "path"],
           "is_steady": ["self"], "row_paths": ["self"], "row_at": ["self", "path"],
           "with_row": ["self", "path", "row"]}


class Interface(unittest.TestCase):

    def test_part(self):
        self.assertEqual(parts.Part.__module__, "calledanew.parts")
        for name, arguments in METHODS.items():
            with self.subTest(name):
                self.assertIn(name, vars(parts.Part))
                if arguments:
                    self.assertEqual(list(inspect.signature(vars(parts.Part)[name]).parameters), arguments)

    def test_rule(self):
        self.assertEqual(rules.Rule.__module__, "calledanew.rules")
        self.assertIn("__eq__", vars(rules.Rule))
        self.assertEqual(list(inspect.signature(rules.Rule.__init__).parameters), ["self", "batch", "same"])
        self.assertEqual(rules.all_rules.__module__, "calledanew.rules")
        self.assertEqual(list(inspect.signature(rules.all_rules).parameters), [])

    def test_attributes_are_set_when_the_object_is_created(self):
        part = parts.Part(("off", "on"), (), (), ())
        for name in ("words", "inputs", "events", "rows"):
            self.assertIn(name, vars(part))
        self.assertEqual(vars(rules.Rule("each", "call")), {"batch": "each", "same": "call"})

    def test_errors_are_values_errors_of_the_package(self):
        for name, value in vars(errors).items():
            if isinstance(value, type):
                self.assertTrue(issubclass(value, errors.CalledError), name)


if __name__ == "__main__":
    unittest.main()
