"""The examples of the document that use the modules of this program."""

import unittest

from calledanew.errors import InvalidPart
from calledanew.parts import Part


class Examples(unittest.TestCase):

    def setUp(self):
        self.part = Part(("off", "on"), ("x",), ("go",), (
            ("cell", "a", "off"), ("effect", ("a",), (("say", "a"),), ()),
            ("handler", "go", None, (("turn", "a", ("on", "off")),)), ("show", "a")))

    def test_hooks_and_functions(self):
        self.assertEqual([self.part.hooks(), self.part.functions()], [[(0,), (1,), (2,)], [(1, 0), (1, 1), (2, 0)]])

    def test_held_links_and_slots(self):
        self.assertEqual([self.part.held((1, 0)), self.part.links((2, 0)), self.part.slots()],
                         [("a",), (("cell", "a"),), ("x", "a")])

    def test_two_cells_of_one_slot(self):
        with self.assertRaises(InvalidPart) as caught:
            Part(("off", "on"), (), (), (("cell", "a", "off"), ("cell", "a", "on")))
        self.assertEqual((caught.exception.part, caught.exception.path), ("names", (1,)))
        self.assertEqual(repr(caught.exception), "InvalidPart('names', (1,))")

    def test_held_behind_an_if(self):
        part = Part(("off", "on"), (), (), (("box", "b", "off"), ("effect", (), (
            ("if", "x", "on", (("put", "y", "on"),), ()), ("say", "y"), ("fetch", "b", "z"), ("say", "z")), ())))
        self.assertEqual(part.held((1, 0)), ("x", "y"))


if __name__ == "__main__":
    unittest.main()
