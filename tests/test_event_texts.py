"""Point 35: lists of events as texts."""

import unittest

from calledanew.errors import InvalidText
from calledanew.standings import all_events
from calledanew.texts import format_events, parse_events
from random_parts import parts_of


def line_of(text):
    """The number with which the text is refused, or None."""
    try:
        parse_events(text)
    except InvalidText as error:
        return error.line
    return None


class Texts(unittest.TestCase):

    def text_is(self, events, text):
        self.assertEqual(format_events(events), text)
        self.assertEqual(parse_events(text), events)

    def test_each_form(self):
        self.text_is([("press", "go")], "press go\n")
        self.text_is([("tick",)], "tick\n")
        self.text_is([("hand", "x", "on")], "hand x on\n")
        self.text_is([("tick",), ("tick",), ("hand", "x", "on"), ("press", "go"), ("tick",)],
                     "tick\ntick\nhand x on\npress go\ntick\n")

    def test_the_empty_list(self):
        self.text_is([], "")

    def test_names_that_no_part_has(self):
        self.text_is([("press", "tick"), ("hand", "hand", "press"), ("press", "abcdefgh"), ("hand", "end", "z")],
                     "press tick\nhand hand press\npress abcdefgh\nhand end z\n")

    def test_the_events_of_parts(self):
        for part in parts_of(15, 50):
            events = all_events(part) * 3
            kept = list(events)
            self.assertEqual(parse_events(format_events(events)), events)
            self.assertEqual(events, kept)

    def test_a_new_list_each_time(self):
        parse_events("tick\n").append(1)
        self.assertEqual(parse_events("tick\n"), [("tick",)])
        parse_events("").append(1)
        self.assertEqual(parse_events(""), [])


class Refused(unittest.TestCase):

    def test_no_newline_at_the_end(self):
        for text in ("tick", "x", " ", "tick\ntick", "NO\ntick", "\ntick", "tick\n ", "press go\npress"):
            self.assertEqual(line_of(text), 0)

    def test_other_lines(self):
        for line in ["", " ", "tick ", " tick", "tick tick", "tick go", "Tick", "ticks", "press", "press ", "press  go",
                     "press go ", " press go", "press go go", "press Go", "press g1", "press ninechars", "press :",
                     "hand", "hand x", "hand x ", "hand x on on", "hand  x on", "hand x  on", "hand x on ", "hand X on",
                     "hand x On", "hand x o1", "hand x = on", "hand ninechars on", "hand x ninechars", "start on",
                     "press\tgo", "press go\r", "PRESS go", "say x", "words off on", "end", "#", "press go;"]:
            with self.subTest(line):
                self.assertEqual(line_of(line + "\n"), 1)
                self.assertEqual(line_of("tick\n" + line + "\n"), 2)
                self.assertEqual(line_of("tick\npress go\n" + line + "\n" + line + "\n"), 3)
                self.assertEqual(line_of(line + "\ntick"), 0)

    def test_many_lines(self):
        self.assertEqual(parse_events("tick\n" * 1000), [("tick",)] * 1000)
        self.assertEqual(line_of("tick\n" * 999 + "NO\n"), 1000)


if __name__ == "__main__":
    unittest.main()
