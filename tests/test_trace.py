"""Points 28 and 29: the trace and the Step."""

import unittest

from calledanew.calling import Step
from deeds import CALL, EACH, GO, OFF, ON, RULES, SAME, SWAP, TICK, go_on, items, played, screen, start
from samples import effect, either, handler, later

CELL = ("cell", "a", "off")
BOX = ("box", "b", "off")
TURN_A = ("turn", "a", SWAP)

# Everything at once: a kept word, a box, an effect with a clean, a handler with a later row.
PART = screen(
    CELL,
    BOX,
    ("kept", "k", "a", SWAP, ("x",)),
    effect(("say", "a"), ("fetch", "b", "y"), ("say", "y"), slots=("a",), clean=(("write", "b", "a"),)),
    handler(("say", "k"), ("set", "a", "x"), later(("say", "a"), TURN_A)),
    either(("show", "a"), other=(("show", "k"), ("put", "m", "on")), slot="a"),
    ("map", "n", "m", SAME),
)


class Trace(unittest.TestCase):

    def test_of_a_start(self):
        deed = start(PART, ("on",))
        self.assertEqual(deed.trace, (
            ("kept", (2,), "on", "on"),
            ("call", ((0,), (1,), (2,), (3,), (4,)), ("on", "off", "on", "on", "on", "off"), ("on",)),
            ("run", (3, 0), 3, ("off",), (1,)),
            ("say", (3, 0, 0), "off"),
            ("fetch", (3, 0, 1), 1, "off"),
            ("say", (3, 0, 2), "off")))
        self.assertEqual(PART.slots(), ("x", "a", "k", "m", "n", "y"))

    def test_of_a_press(self):
        first = start(PART, ("on",))
        deed = go_on(PART, first.after, GO)
        self.assertEqual(deed.trace, (
            ("run", (4, 0), 4, ("off", "on", "on"), (0,)),
            ("say", (4, 0, 0), "on"),
            ("set", (4, 0, 1), 0, "on"),
            ("later", (4, 0, 2), ("off",), (0,)),
            ("cell", 0, "on"),
            ("kept", (2,), "on", "off"),
            ("call", ((0,), (1,), (2,), (3,), (4,)), ("on", "on", "on", "off", "off", "off"), ("on",)),
            ("run", (3, 1), 3, ("off",), (1,)),
            ("write", (3, 1, 0), 1, "off"),
            ("run", (3, 0), 3, ("on",), (1,)),
            ("say", (3, 0, 0), "on"),
            ("fetch", (3, 0, 1), 1, "off"),
            ("say", (3, 0, 2), "off")))

    def test_of_a_tick(self):
        first = start(PART, ("on",))
        deed = go_on(PART, first.after, GO, TICK)
        self.assertEqual(deed.trace[:5], (
            ("run", (4, 0, 2, 0), None, ("off",), (0,)),
            ("say", (4, 0, 2, 0, 0), "off"),
            ("turn", (4, 0, 2, 0, 1), 0),
            ("cell", 0, "off"),
            ("kept", (2,), "on", "on")))
        self.assertEqual(deed.trace[6:8], (("run", (3, 1), 3, ("on",), (1,)), ("write", (3, 1, 0), 1, "on")))
        self.assertEqual(deed.said, ("off", "off", "on"))

    def test_of_a_hand(self):
        deed = played(PART, OFF, words=("on",))
        self.assertEqual(deed.trace, (
            ("kept", (2,), "on", "on"),
            ("call", ((0,), (1,), (2,), (3,), (4,)), ("off", "off", "on", "on", "on", "off"), ("on",))))

    def test_items_amid_a_run_with_batch_each(self):
        part = screen(CELL, handler(TURN_A, ("say", "a"), ("set", "a", "a")))
        deed = played(part, GO, rule=EACH)
        call = ("call", ((0,), (1,)), ("off", "on"), ())
        again = ("call", ((0,), (1,)), ("off", "off"), ())
        self.assertEqual(deed.trace, (
            ("run", (1, 0), 1, ("off",), (0,)), ("turn", (1, 0, 0), 0), ("cell", 0, "on"), call,
            ("say", (1, 0, 1), "off"), ("set", (1, 0, 2), 0, "off"), ("cell", 0, "off"), again))

    def test_kept_items_of_each_call_ahead_of_the_call(self):
        part = screen(("kept", "k", "x", SWAP, ()), either(("kept", "m", "k", SAME, ("k",)), slot="k"), CELL,
                      effect(("set", "a", "x"), slots=()))
        self.assertEqual([item[0] for item in start(part, ("off",), CALL).trace],
                         ["kept", "kept", "call", "run", "set", "cell", "kept", "kept", "call"])

    def test_put_map_if_show_and_the_end_of_runs_are_in_no_trace(self):
        part = screen(("put", "a", "on"), ("map", "c", "a", SAME), either(("show", "x")), effect(
            ("put", "a", "on"), ("map", "c", "a", SAME), either(("put", "a", "on"), slot="a"), slots=None))
        self.assertEqual([item[0] for item in start(part).trace], ["call", "run"])

    def test_tuples_all_the_way_down(self):
        def judge(value):
            if isinstance(value, tuple):
                for item in value:
                    judge(item)
            else:
                self.assertIn(value.__class__, (int, str, None.__class__))
        for events in ((), (GO,), (GO, TICK), (ON, GO, GO)):
            for rule in RULES:
                deed = played(PART, *events, rule=rule)
                for value in (deed.after, deed.trace, deed.said, deed.shown, deed.done):
                    self.assertIs(value.__class__, tuple)
                    judge(value)


class Steps(unittest.TestCase):

    def test_the_step_of_a_start(self):
        deed = start(PART, ("on",))
        self.assertIsInstance(deed, Step)
        self.assertEqual([deed.event, deed.before], [None, None])
        self.assertEqual([deed.shown, deed.said, deed.calls], [("on",), ("off", "off"), 1])
        self.assertEqual(deed.after[4], ("on",))

    def test_the_step_of_an_event(self):
        first = start(PART, ("on",))
        deed = go_on(PART, first.after, GO)
        self.assertEqual([deed.event, deed.before, deed.calls], [GO, first.after, 1])
        self.assertEqual([deed.said, deed.shown], [("on", "on", "off"), ("on",)])

    def test_said_in_order_and_with_duplicates(self):
        part = screen(CELL, effect(("say", "a"), ("say", "x"), ("say", "a"), slots=("a",)),
                      handler(TURN_A, ("say", "a")))
        self.assertEqual(played(part, GO, words=("on",)).said, ("off", "on", "on", "on"))

    def test_calls_is_the_number_of_call_items(self):
        for rule in RULES:
            for events in ((), (GO,), (TICK,), (ON, GO), (GO, GO, TICK)):
                deed = played(PART, *events, rule=rule)
                self.assertEqual(deed.calls, len(items(deed, "call")))
                self.assertEqual(deed.said, tuple([item[2] for item in items(deed, "say")]))

    def test_an_event_that_does_nothing(self):
        first = start(PART, ("on",))
        for event in (TICK, ON):
            deed = go_on(PART, first.after, event)
            self.assertEqual([deed.event, deed.before, deed.after, deed.shown, deed.said, deed.trace, deed.calls,
                              deed.done],
                             [event, first.after, first.after, ("on",), (), (), 0, ()])


class Done(unittest.TestCase):

    def test_rows_of_calls_and_runs(self):
        deed = start(PART, ("on",))
        self.assertEqual(deed.done, ((0,), (1,), (2,), (3,), (3, 0, 0), (3, 0, 1), (3, 0, 2), (4,), (5,), (5, 1, 0),
                                     (5, 1, 1), (6,)))
        deed = go_on(PART, deed.after, GO)
        self.assertEqual(deed.done, ((0,), (1,), (2,), (3,), (3, 0, 0), (3, 0, 1), (3, 0, 2), (3, 1, 0), (4,),
                                     (4, 0, 0),
                                     (4, 0, 1), (4, 0, 2), (5,), (5, 0, 0), (6,)))

    def test_rows_of_a_run_alone(self):
        part = screen(handler(("put", "y", "on"), ("map", "z", "y", SAME),
                              either(("say", "z"), other=(("say", "x"),), slot="z"),
                              later(("say", "x"), ("put", "x", "on"))))
        self.assertEqual(played(part, GO).done, ((0, 0, 0), (0, 0, 1), (0, 0, 2), (0, 0, 2, 0, 0), (0, 0, 3)))
        self.assertEqual(played(part, GO, TICK).done, ((0, 0, 3, 0, 0), (0, 0, 3, 0, 1)))

    def test_both_halves_of_an_if_row_in_two_calls(self):
        part = screen(CELL, either(("show", "a"), other=(either(("show", "x"), ("show", "a")),), slot="a"),
                      effect(TURN_A, slots=()))
        deed = start(part, ("on",))
        self.assertEqual(deed.done, ((0,), (1,), (1, 0, 0), (1, 1, 0), (1, 1, 0, 0, 0), (1, 1, 0, 0, 1), (2,),
                                     (2, 0, 0)))

    def test_rows_whose_number_is_none_are_done(self):
        part = screen(either(CELL, BOX), handler(("set", "a", "x"), ("fetch", "b", "y"), ("write", "b", "y"), TURN_A))
        self.assertEqual(played(part, GO).done, ((1, 0, 0), (1, 0, 1), (1, 0, 2), (1, 0, 3)))

    def test_no_duplicates_and_program_order(self):
        part = screen(("show", "x"), CELL, effect(TURN_A, slots=("x",), clean=(TURN_A,)), *[("show", "a")] * 9,
                      handler(TURN_A, TURN_A))
        for rule in RULES:
            for events in ((), (ON,), (ON, GO), (GO, GO)):
                done = played(part, *events, rule=rule).done
                self.assertEqual(done, tuple(sorted(set(done))))
        self.assertEqual(start(part).done, tuple([(place,) for place in range(3)]) + ((2, 0, 0),)
                         + tuple([(place,) for place in range(3, 13)]))

    def test_rows_that_are_not_reached_are_not_done(self):
        part = screen(CELL, effect(TURN_A, slots=("x",), clean=(("say", "a"),)), handler(TURN_A))
        self.assertNotIn((1, 1, 0), start(part).done)
        self.assertNotIn((2, 0, 0), start(part).done)
        self.assertIn((1, 1, 0), played(part, ON).done)


if __name__ == "__main__":
    unittest.main()
