"""Point 3: the error classes."""

import unittest

from calledanew import errors

ARGUMENTS = {
    "InvalidPart": ("part", "path"), "InvalidRule": ("part",), "InvalidStart": ("words",),
    "InvalidEvent": ("event",), "InvalidPath": ("path",), "InvalidBound": ("value",), "InvalidText": ("line",),
    "UnknownInput": ("name",), "UnknownWord": ("word",), "UnknownEvent": ("event",), "Slipped": ("path",),
    "TooManyLater": ("path",), "TooManyCalls": ("most",), "LimitExceeded": ("limit",),
    "NoFault": ("kind", "path"), "InvalidKind": ("kind",), "NotComparable": ("part",), "InvalidChange": ("index",),
    "NoFunction": ("path",), "InvalidStanding": (), "NothingToUndo": (), "NoStanding": (), "NothingToRedo": (),
}


class ErrorClasses(unittest.TestCase):

    def test_base_stands_directly_under_value_error(self):
        self.assertEqual(errors.CalledError.__bases__, (ValueError,))

    def test_each_class_stands_directly_under_the_base(self):
        for name in ARGUMENTS:
            with self.subTest(name):
                found = getattr(errors, name)
                self.assertEqual(found.__bases__, (errors.CalledError,))
                self.assertEqual(found.__module__, "calledanew.errors")

    def test_there_are_no_other_classes(self):
        found = {name for name, value in vars(errors).items() if isinstance(value, type)}
        self.assertEqual(found, set(ARGUMENTS) | {"CalledError"})

    def test_attributes_hold_what_was_passed(self):
        for name, names in ARGUMENTS.items():
            passed = [[name, at] for at in range(len(names))]
            made = getattr(errors, name)(*passed)
            with self.subTest(name):
                self.assertEqual(sorted(vars(made)), sorted(names))
                for attribute, value in zip(names, passed):
                    self.assertIs(getattr(made, attribute), value)

    def test_arguments_have_their_names(self):
        for name, names in ARGUMENTS.items():
            made = getattr(errors, name)(**{attribute: attribute.upper() for attribute in names})
            with self.subTest(name):
                self.assertEqual(vars(made), {attribute: attribute.upper() for attribute in names})

    def test_arguments_cannot_be_left_out(self):
        for name, names in ARGUMENTS.items():
            if names:
                with self.subTest(name), self.assertRaises(TypeError):
                    getattr(errors, name)()


if __name__ == "__main__":
    unittest.main()
