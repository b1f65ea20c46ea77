"""The examples of the document that use the modules of this program."""

import unittest

from calledanew.calling import begin, step
from calledanew.errors import InvalidPart, Slipped, TooManyCalls
from calledanew.judge import faults
from calledanew.live import Live
from calledanew.parts import Part
from calledanew.rules import Rule


def switch():
    return Part(("off", "on"), ("x",), ("go",), (
        ("cell", "a", "off"), ("effect", ("a",), (("say", "a"),), ()),
        ("handler", "go", None, (("turn", "a", ("on", "off")),)), ("show", "a")))


class Parts(unittest.TestCase):

    def test_hooks_and_functions(self):
        part = switch()
        self.assertEqual([part.hooks(), part.functions()], [[(0,), (1,), (2,)], [(1, 0), (1, 1), (2, 0)]])

    def test_held_links_and_slots(self):
        part = switch()
        self.assertEqual([part.held((1, 0)), part.links((2, 0)), part.slots()],
                         [("a",), (("cell", "a"),), ("x", "a")])

    def test_two_cells_of_one_slot(self):
        with self.assertRaises(InvalidPart) as caught:
            Part(("off", "on"), (), (), (("cell", "a", "off"), ("cell", "a", "on")))
        self.assertEqual((caught.exception.part, caught.exception.path), ("names", (1,)))
        self.assertEqual(repr(caught.exception), "InvalidPart('names', (1,))")

    def test_held_behind_an_if(self):
        part = Part(("off", "on"), (), (), (("box", "b", "off"), ("effect", (), (
            ("if", "x", "on", (("put", "y", "on"),), ()), ("say", "y"), ("fetch", "b", "z"), ("say", "z")), ())))
        self.assertEqual(part.held((1, 0)), ("x", "y"))


class Steps(unittest.TestCase):

    def setUp(self):
        self.rule = Rule("together", "pass")

    def test_the_standing_of_a_start(self):
        self.assertEqual(begin(switch(), self.rule, ("off",)).after, (
            ("off", "off"), ((0,), (1,), (2,)),
            (("cell", "off"), ("effect", (1,), ("off",), (("off",), ()), ((), ())),
             ("handler", (2,), None, ((), (0,)))),
            (), ("off",)))

    def test_the_trace_of_a_press(self):
        first = begin(switch(), self.rule, ("off",))
        self.assertEqual(step(switch(), self.rule, first.after, ("press", "go")).trace, (
            ("run", (2, 0), 2, (), (0,)), ("turn", (2, 0, 0), 0), ("cell", 0, "on"),
            ("call", ((0,), (1,), (2,)), ("off", "on"), ("on",)), ("run", (1, 0), 1, ("on",), ()),
            ("say", (1, 0, 0), "on")))

    def test_a_stale_handler(self):
        part = Part(("off", "on"), (), ("go",), (
            ("cell", "a", "off"), ("handler", "go", (), (("say", "a"), ("turn", "a", ("on", "off"))))))
        first = begin(part, self.rule, ())
        second = step(part, self.rule, first.after, ("press", "go"))
        third = step(part, self.rule, second.after, ("press", "go"))
        self.assertEqual([faults(part, second.before, second.trace, second.after),
                          faults(part, third.before, third.trace, third.after)], [[], [("stale", (1,))]])

    def test_a_slip(self):
        part = Part(("off", "on"), ("x",), (), (("if", "x", "on", (("cell", "a", "off"),), ()),))
        first = begin(part, self.rule, ("off",))
        with self.assertRaises(Slipped) as caught:
            step(part, self.rule, first.after, ("hand", "x", "on"))
        self.assertEqual(repr(caught.exception), "Slipped((0, 0, 0))")

    def test_a_mixed_cell(self):
        part = Part(("off", "on"), ("x",), (), (
            ("if", "x", "on", (("cell", "a", "on"),), (("cell", "b", "off"),)), ("show", "a")))
        first = begin(part, self.rule, ("off",))
        second = step(part, self.rule, first.after, ("hand", "x", "on"))
        self.assertEqual([second.shown, faults(part, second.before, second.trace, second.after)],
                         [("off",), [("mixed", (0, 0, 0))]])

    def test_calls_without_end(self):
        part = Part(("off", "on"), (), (), (
            ("cell", "a", "off"), ("effect", None, (("turn", "a", ("on", "off")),), ())))
        with self.assertRaises(TooManyCalls) as caught:
            begin(part, Rule("together", "pass"), (), most=3)
        self.assertEqual(repr(caught.exception), "TooManyCalls(3)")

    def test_together_and_each(self):
        part = Part(("off", "on"), (), ("go",), (
            ("cell", "a", "off"),
            ("handler", "go", None, (("turn", "a", ("on", "off")), ("turn", "a", ("on", "off"))))))
        first = begin(part, Rule("together", "pass"), ())
        second = step(part, Rule("together", "pass"), first.after, ("press", "go"))
        third = step(part, Rule("each", "pass"), first.after, ("press", "go"))
        self.assertEqual([second.calls, third.calls, second.after == third.after], [0, 2, True])


class LiveParts(unittest.TestCase):

    def test_a_later_row(self):
        part = Part(("off", "on"), (), ("go",), (
            ("cell", "a", "off"),
            ("handler", "go", (), (("say", "a"), ("later", (("say", "a"), ("turn", "a", ("on", "off"))))))))
        live = Live(part, Rule("together", "pass"), ())
        self.assertEqual([live.press("go"), live.press("go"), live.tick(), live.tick(), live.tick(),
                          live.standing()[0]],
                         [["off"], ["off"], ["off"], ["off"], [], ("off",)])

    def test_undo(self):
        live = Live(switch(), Rule("together", "pass"), ("off",))
        self.assertEqual([live.said_words(), live.press("go"), live.screen(), live.undo(), live.screen()],
                         [["off"], ["on"], ("on",), ("press", "go"), ("off",)])


if __name__ == "__main__":
    unittest.main()
