"""Points 25 and 29: which values are events, and the list of them."""

import unittest

from calledanew.parts import Part
from calledanew.standings import all_events, is_event
from deeds import WORDS
from samples import nested

PART = Part(("off", "on", "dim"), ("y", "x"), ("stop", "go"), (("show", "a"),))
EVENTS = [("press", "stop"), ("press", "go"), ("tick",),
          ("hand", "y", "off"), ("hand", "y", "on"), ("hand", "y", "dim"),
          ("hand", "x", "off"), ("hand", "x", "on"), ("hand", "x", "dim")]


class IsEvent(unittest.TestCase):

    def test_every_form(self):
        for event in EVENTS:
            self.assertIs(is_event(PART, event), True)

    def test_values_that_are_nearly_events(self):
        for value in [("press",), ("press", "up"), ("press", "x"), ("press", "off"), ("press", "go", "go"),
                      ["press", "go"],
                      ("press", ("go",)), ("press", None), ("press", True), ("Press", "go"), ("press", ""), "press",
                      ("tick", "go"), ("tick", None), ["tick"], "tick", ("Tick",), ("tick", ()), (("tick",),),
                      ("tock",),
                      ("hand", "x"), ("hand", "x", "maybe"), ("hand", "a", "on"), ("hand", "go", "on"),
                      ("hand", "on", "x"), ("hand", "x", None), ("hand", "x", True), ("hand", None, "on"),
                      ("hand", "x", "on", "on"), ["hand", "x", "on"], ("hand", ("x",), "on"), ("hand", ["x"], ["on"]),
                      ("hand", {}, "on"), ("set", "x", "on"), ("press", "x", "on"), ("tick", "x", "on"),
                      ("hand", "go"), ("press", {}), ("press", []), ("go",), ("go", "press"), ("show", "a")]:
            self.assertIs(is_event(PART, value), False, value)

    def test_any_values(self):
        for value in [None, True, False, 0, 1, "", (), [], {}, ((),), (None,), (0,)] + list(nested(20)):
            self.assertIs(is_event(PART, value), False)
            self.assertIs(is_event(PART, (value,)), False)
            self.assertIs(is_event(PART, ("press", value)), False)
            self.assertIs(is_event(PART, (value, "go")), False)
            self.assertIs(is_event(PART, ("hand", "x", value)), False)
            self.assertIs(is_event(PART, ("hand", value, "on")), False)

    def test_a_part_without_events_and_inputs(self):
        part = Part(WORDS, (), (), ())
        self.assertIs(is_event(part, ("tick",)), True)
        for event in EVENTS:
            if event != ("tick",):
                self.assertIs(is_event(part, event), False)


class AllEvents(unittest.TestCase):

    def test_in_order(self):
        self.assertEqual(all_events(PART), EVENTS)
        self.assertEqual(all_events(Part(WORDS, (), (), ())), [("tick",)])
        self.assertEqual(all_events(Part(WORDS, (), ("b", "a"), ())), [("press", "b"), ("press", "a"), ("tick",)])

    def test_a_new_list_each_time(self):
        first = all_events(PART)
        self.assertIs(type(first), list)
        first.clear()
        self.assertEqual(all_events(PART), EVENTS)
        all_events(PART).append(("tick",))
        self.assertEqual(all_events(PART), EVENTS)

    def test_each_of_them_is_an_event(self):
        self.assertTrue(all(is_event(PART, event) for event in all_events(PART)))


if __name__ == "__main__":
    unittest.main()
