"""Books will ask many thousand starts and events: a single one is well below a hundredth of a second."""

import time
import unittest

from calledanew.calling import begin, step
from calledanew.judge import faults
from calledanew.parts import Part
from calledanew.standings import all_events
from deeds import RULES

TURN = ("q", "r", "s", "p")
BODY = (("say", "a"), ("say", "k"), ("map", "m", "a", TURN), ("write", "z", "m"), ("fetch", "z", "n"),
        ("if", "n", "p", (("say", "n"),), ()), ("say", "b"))
LARGE = Part(("p", "q", "r", "s"), ("x", "y"), ("go", "up"), (
    ("cell", "a", "p"), ("cell", "b", "p"), ("box", "z", "p"), ("kept", "k", "a", TURN, ("a", "b")),
    *[("effect", slots, BODY, (("say", "a"), ("say", "b"))) for slots in (None, ("a", "b"), None, ("a",), None)],
    ("handler", "go", ("a",), (("turn", "a", TURN), ("turn", "b", TURN), ("turn", "a", TURN), ("say", "a"))),
    ("handler", "up", None, (("turn", "a", TURN), ("later", (("turn", "b", TURN),)), ("say", "a"))),
    ("show", "a"), ("if", "x", "p", (("show", "a"),), (("show", "b"),)), ("show", "k")))


def seconds(ask):
    """The least time of a few tries, as other work of the machine only adds to it."""
    least = None
    for count in range(5):
        before = time.perf_counter()
        ask()
        taken = time.perf_counter() - before
        least = taken if least is None else min(least, taken)
    return least


class Speed(unittest.TestCase):

    def test_a_start_and_each_event_of_a_large_part(self):
        for rule in RULES:
            first = begin(LARGE, rule, ("p", "p"))
            self.assertLess(seconds(lambda: begin(LARGE, rule, ("p", "p"))), 0.005)
            for event in all_events(LARGE):
                deed = step(LARGE, rule, first.after, event)
                self.assertLess(seconds(lambda: step(LARGE, rule, first.after, event)), 0.005)
                self.assertLess(seconds(lambda: faults(LARGE, deed.before, deed.trace, deed.after)), 0.005)


if __name__ == "__main__":
    unittest.main()
