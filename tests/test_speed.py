"""Books ask many thousand starts and events: a single one is well below a hundredth of a second."""

import time
import unittest

from calledanew.books import Book
from calledanew.calling import begin, step
from calledanew.errors import LimitExceeded
from calledanew.judge import faults
from calledanew.parts import Part
from calledanew.standings import all_events
from deeds import PASS, RULES
from shelves import BOXES, WAITS

TURN = ("q", "r", "s", "p")
BODY = (("say", "a"), ("say", "k"), ("map", "m", "a", TURN), ("write", "z", "m"), ("fetch", "z", "n"),
        ("if", "n", "p", (("say", "n"),), ()), ("say", "b"))
LARGE = Part(("p", "q", "r", "s"), ("x", "y"), ("go", "up"), (
    ("cell", "a", "p"), ("cell", "b", "p"), ("box", "z", "p"), ("kept", "k", "a", TURN, ("a", "b")),
    *[("effect", slots, BODY, (("say", "a"), ("say", "b"))) for slots in (None, ("a", "b"), None, ("a",), None)],
    ("handler", "go", ("a",), (("turn", "a", TURN), ("turn", "b", TURN), ("turn", "a", TURN), ("say", "a"))),
    ("handler", "up", None, (("turn", "a", TURN), ("later", (("turn", "b", TURN),)), ("say", "a"))),
    ("show", "a"), ("if", "x", "p", (("show", "a"),), (("show", "b"),)), ("show", "k")))


def seconds(ask):
    """The least time of a few tries, as other work of the machine only adds to it."""
    least = None
    for count in range(5):
        before = time.perf_counter()
        ask()
        taken = time.perf_counter() - before
        least = taken if least is None else min(least, taken)
    return least


class Speed(unittest.TestCase):

    def test_a_start_and_each_event_of_a_large_part(self):
        for rule in RULES:
            first = begin(LARGE, rule, ("p", "p"))
            self.assertLess(seconds(lambda: begin(LARGE, rule, ("p", "p"))), 0.005)
            for event in all_events(LARGE):
                deed = step(LARGE, rule, first.after, event)
                self.assertLess(seconds(lambda: step(LARGE, rule, first.after, event)), 0.005)
                self.assertLess(seconds(lambda: faults(LARGE, deed.before, deed.trace, deed.after)), 0.005)

    def test_books(self):
        for part in (BOXES, WAITS):
            self.assertLess(seconds(lambda: Book(part, PASS)), 0.02)
        self.assertLess(seconds(lambda: self.large_book(300)), 1)

    def large_book(self, limit):
        with self.assertRaises(LimitExceeded):
            Book(LARGE, PASS, limit=limit)

    def test_what_a_book_tells(self):
        book = Book(WAITS, PASS)
        first, last = book.standings()[0], book.standings()[-1]
        for ask in (book.standings, book.starts, book.faults, book.verdict, lambda: book.least_run(last),
                    lambda: book.least_fault("stale", (1,)), lambda: book.is_free("old"), lambda: book.way(first, last),
                    lambda: book.follow(first, ("press", "go")), lambda: last in book):
            self.assertLess(seconds(ask), 0.001)


if __name__ == "__main__":
    unittest.main()
