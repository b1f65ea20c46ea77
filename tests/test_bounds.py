"""Points 3 and 27: the bound of calls, refused starts and events, and the order of errors."""

import copy
import unittest

from calledanew.calling import begin, step
from calledanew.errors import (InvalidBound, InvalidEvent, InvalidStanding, InvalidStart, Slipped, TooManyCalls,
                               TooManyLater)
from calledanew.live import Live
from deeds import BAD_BOUNDS, CALL, EACH, GO, ON, PASS, RULES, SWAP, TICK, go_on, outcome, screen, start, told
from samples import effect, either, handler, later, nested

CELL = ("cell", "a", "off")
TURN_A = ("turn", "a", SWAP)

# Two calls for a press of "go" under "pass": the turn and the effect that turns back.
BACK = screen(CELL, handler(TURN_A), effect(either(TURN_A, slot="a"), slots=("a",)), ("show", "a"))
ENDLESS = screen(CELL, effect(TURN_A, slots=None))
WORD_STEPS = ("a", "b", "c", "d")
# Is called once for each of its words.
COUNTS = screen(("cell", "a", "a"), effect(either(other=(("turn", "a", ("b", "c", "d", "d")),), slot="a", word="d"),
                                           slots=("a",)), words=WORD_STEPS)


class Bound(unittest.TestCase):

    def test_exactly_the_number_of_calls_and_one_below(self):
        self.assertEqual(start(COUNTS, ("a",)).calls, 4)
        self.assertEqual(start(COUNTS, ("a",), most=4).calls, 4)
        with self.assertRaises(TooManyCalls) as caught:
            start(COUNTS, ("a",), most=3)
        self.assertEqual(caught.exception.most, 3)
        first = start(BACK)
        self.assertEqual(go_on(BACK, first.after, GO).calls, 2)
        self.assertEqual(step(BACK, PASS, first.after, GO, most=2).calls, 2)
        self.assertEqual(outcome(lambda: step(BACK, PASS, first.after, GO, most=1)), ("round", ()))

    def test_one_call_is_enough_for_many_events(self):
        part = screen(CELL, handler(TURN_A), ("show", "a"))
        first = begin(part, PASS, ("off",), most=1)
        self.assertEqual(step(part, PASS, first.after, GO, most=1).shown, ("on",))
        self.assertEqual(step(part, PASS, first.after, ON, most=1).calls, 1)
        self.assertEqual(step(part, PASS, first.after, TICK, most=1).calls, 0)

    def test_the_calls_of_one_event_are_counted_together(self):
        part = screen(CELL, handler(TURN_A, TURN_A, TURN_A))
        first = start(part, rule=EACH)
        self.assertEqual(step(part, EACH, first.after, GO, most=3).calls, 3)
        with self.assertRaises(TooManyCalls):
            step(part, EACH, first.after, GO, most=2)

    def test_fifty_if_it_is_left_out(self):
        for ask in (lambda: begin(ENDLESS, PASS, ("off",)), lambda: Live(ENDLESS, PASS, ("off",))):
            with self.assertRaises(TooManyCalls) as caught:
                ask()
            self.assertEqual(caught.exception.most, 50)
        standing = (("off",) * 2, ((0,), (1,)), (("cell", "off"), ("effect", (1,), None, ((), (0,)), ((), ()))), (), ())
        with self.assertRaises(TooManyCalls) as caught:
            step(ENDLESS, PASS, standing, ON)
        self.assertEqual(caught.exception.most, 50)
        with self.assertRaises(TooManyCalls) as caught:
            Live.resumed(ENDLESS, PASS, standing)(ON)
        self.assertEqual(caught.exception.most, 50)

    def test_the_least_and_the_greatest(self):
        for most in (1, 2, 499, 500):
            with self.assertRaises(TooManyCalls) as caught:
                begin(ENDLESS, CALL, ("off",), most=most)
            self.assertEqual(caught.exception.most, most)
            self.assertEqual(begin(screen(), PASS, ("off",), most=most).calls, 1)

    def test_values_that_are_no_bounds(self):
        standing = start(BACK).after
        for value in BAD_BOUNDS:
            for ask in (lambda: begin(BACK, PASS, ("off",), most=value),
                        lambda: step(BACK, PASS, standing, GO, most=value)):
                with self.assertRaises(InvalidBound) as caught:
                    ask()
                self.assertIs(caught.exception.value, value)


class Arguments(unittest.TestCase):

    def test_words_of_a_start(self):
        part = screen(inputs=("x", "y"))
        for words in [(), ("off",), ("off", "on", "on"), ("off", "maybe"), ("maybe", "off"), ["off", "on"], "off", None,
                      ("off", None), ("off", True), (("off",), "on"), {"x": "off", "y": "on"}, 0,
                      True] + list(nested(20)):
            with self.assertRaises(InvalidStart) as caught:
                begin(part, PASS, words)
            self.assertIs(caught.exception.words, words)
        self.assertEqual(begin(part, PASS, ("on", "on")).calls, 1)
        self.assertEqual(begin(screen(inputs=()), PASS, ()).calls, 1)
        with self.assertRaises(InvalidStart):
            begin(screen(inputs=()), PASS, None)

    def test_standings_and_events(self):
        standing = start(BACK).after
        for value in [None, (), [], list(standing), standing[:4], {}, 5] + list(nested(20)):
            with self.assertRaises(InvalidStanding):
                step(BACK, PASS, value, GO)
        for value in [None, (), [], "tick", ["tick"], ("press", "stop"), ("hand", "x", "maybe"), 0] + list(nested(20)):
            with self.assertRaises(InvalidEvent) as caught:
                step(BACK, PASS, standing, value)
            self.assertIs(caught.exception.event, value)

    def test_the_order_of_errors(self):
        standing = start(BACK).after
        slips = screen(either(("box", "b", "off")))
        with self.assertRaises(InvalidBound):
            begin(BACK, PASS, None, most=0)
        with self.assertRaises(InvalidStart):
            begin(ENDLESS, PASS, ("on", "on"), most=1)
        with self.assertRaises(InvalidBound):
            step(BACK, PASS, None, None, most=501)
        with self.assertRaises(InvalidStanding):
            step(BACK, PASS, None, None, most=1)
        with self.assertRaises(InvalidEvent):
            step(BACK, PASS, standing, None, most=1)
        with self.assertRaises(InvalidEvent):
            step(slips, PASS, start(slips).after, ("hand", "x", "yes"))
        with self.assertRaises(Slipped):
            step(slips, PASS, start(slips).after, ON)


class FirstOfThem(unittest.TestCase):
    """The first of Slipped, TooManyLater and TooManyCalls in the order of what happens is raised."""

    def test_later_rows_ahead_of_calls(self):
        part = screen(CELL, handler(TURN_A, *[later()] * 4), either(("box", "b", "off"), slot="a"))
        self.assertEqual(outcome(lambda: go_on(part, start(part).after, GO)), ("full", (1, 0, 4)))
        self.assertEqual(outcome(lambda: go_on(part, start(part).after, GO, rule=EACH)), ("slip", (2, 0, 0)))

    def test_calls_ahead_of_later_rows(self):
        part = screen(CELL, handler(TURN_A, TURN_A, *[later()] * 4))
        standing = start(part).after
        with self.assertRaises(TooManyCalls):
            step(part, EACH, standing, GO, most=1)
        with self.assertRaises(TooManyLater):
            step(part, EACH, standing, GO, most=2)
        with self.assertRaises(TooManyLater):
            step(part, PASS, standing, GO, most=1)

    def test_the_call_that_would_slip_does_not_begin(self):
        part = screen(CELL, effect(TURN_A), either(("box", "b", "off"), slot="a"))
        with self.assertRaises(TooManyCalls) as caught:
            begin(part, PASS, ("off",), most=1)
        self.assertEqual(caught.exception.most, 1)
        with self.assertRaises(Slipped) as caught:
            begin(part, PASS, ("off",), most=2)
        self.assertEqual(caught.exception.path, (2, 0, 0))

    def test_effects_of_a_call_ahead_of_the_next_call(self):
        part = screen(CELL, effect(TURN_A, *[later()] * 4))
        with self.assertRaises(TooManyLater) as caught:
            begin(part, PASS, ("off",), most=1)
        self.assertEqual(caught.exception.path, (1, 0, 4))


class Refused(unittest.TestCase):

    def test_nothing_has_changed(self):
        part = screen(CELL, ("box", "b", "off"), handler(("write", "b", "x"), TURN_A, ("say", "x"), later(TURN_A)),
                      either(("cell", "c", "off"), slot="a"), ("show", "a"))
        for rule in RULES:
            standing = start(part, ("on",), rule).after
            before = copy.deepcopy(standing)
            self.assertEqual(outcome(lambda: go_on(part, standing, GO, rule=rule)), ("slip", (3, 0, 0)))
            self.assertEqual(standing, before)
            self.assertEqual(told(go_on(part, standing, ("hand", "x", "off"), rule=rule)),
                             told(go_on(part, before, ("hand", "x", "off"), rule=rule)))

    def test_a_start_may_be_tried_again_with_a_greater_bound(self):
        for most in (1, 2, 3):
            with self.assertRaises(TooManyCalls):
                begin(COUNTS, PASS, ("a",), most=most)
        self.assertEqual(told(begin(COUNTS, PASS, ("a",), most=4)), told(begin(COUNTS, PASS, ("a",))))

    def test_five_hundred_calls_amid_a_run_are_no_deep_recursion(self):
        part = screen(CELL, handler(TURN_A), effect(TURN_A, slots=("a",)))
        standing = (("off", "off"), ((0,), (1,), (2,)), (("cell", "off"), ("handler", (1,), None, ((), (0,))),
                                                         ("effect", (2,), ("off",), ((), (0,)), ((), ()))), (), ())
        for rule in RULES:
            with self.assertRaises(TooManyCalls):
                step(part, rule, standing, GO, most=500)


if __name__ == "__main__":
    unittest.main()
