"""Points 22, 25 and 26: events, functions that wait, and runs from outside."""

import unittest

from calledanew.errors import TooManyLater
from deeds import (CALL, EACH, EACH_CALL, GO, OFF, ON, PASS, RULES, SWAP, TICK, go_on, items, outcome, played, runs,
                   screen, start, told)
from samples import effect, either, handler, later

CELL = ("cell", "a", "off")
BOX = ("box", "b", "off")
TURN_A = ("turn", "a", SWAP)
SAY_A = ("say", "a")
SAY_X = ("say", "x")
SHOW_A = ("show", "a")
STOP = ("press", "stop")


class Press(unittest.TestCase):

    def test_the_last_handler_hook_of_the_latest_call(self):
        part = screen(handler(("put", "y", "on"), ("say", "y")), handler(SAY_X), ("handler", "stop", None, ()),
                      either(handler(("map", "y", "x", SWAP), ("say", "y"))), effect(), events=("go", "stop"))
        self.assertEqual(runs(played(part, GO)), [((1, 0), 1)])
        self.assertEqual(runs(played(part, STOP)), [((2, 0), 2)])
        self.assertEqual(runs(played(part, GO, words=("on",))), [((3, 0, 0, 0), 3)])

    def test_the_row_at_the_hook_counts_and_not_the_row_of_the_entry(self):
        part = screen(either(handler(SAY_X, slots=()), other=(handler(SAY_X, SAY_X, slots=()),)))
        self.assertEqual(runs(played(part, ON, GO)), [((0, 1, 0, 0), 0)])

    def test_without_such_a_hook_nothing_happens(self):
        part = screen(handler(TURN_A), CELL, ("show", "x"), events=("go", "stop"))
        for rule in RULES:
            first = start(part, rule=rule)
            deed = go_on(part, first.after, STOP, rule=rule)
            self.assertEqual(told(deed), (STOP, first.after, first.after, ("off",), (), (), 0, ()))
        part = screen(either(handler(SAY_X), other=(("handler", "stop", None, ()),)), events=("go", "stop"))
        self.assertEqual(played(part, GO).trace, ())


class Hand(unittest.TestCase):

    PART = screen(("show", "x"), effect(SAY_X), effect(("say", "y"), slots=None), inputs=("x", "y"))

    def test_the_input_gets_the_word(self):
        deed = played(self.PART, ON, words=("off", "on"))
        self.assertEqual([deed.after[0], deed.shown, deed.said, deed.calls], [("on", "on"), ("on",), ("on",), 1])
        deed = played(self.PART, ("hand", "y", "off"), words=("off", "on"))
        self.assertEqual([deed.after[0], deed.said], [("off", "off"), ("off",)])

    def test_the_word_that_it_holds_already(self):
        for rule in (PASS, EACH):
            first = start(self.PART, ("off", "on"), rule)
            deed = go_on(self.PART, first.after, OFF, rule=rule)
            self.assertEqual(told(deed), (OFF, first.after, first.after, ("off",), (), (), 0, ()))
        for rule in (CALL, EACH_CALL):
            first = start(self.PART, ("off", "on"), rule)
            deed = go_on(self.PART, first.after, OFF, rule=rule)
            self.assertEqual([deed.calls, deed.said, deed.after], [1, ("on",), first.after])

    def test_it_is_held_from_then_on(self):
        part = screen(CELL, handler(TURN_A), ("show", "x"), SHOW_A)
        self.assertEqual(played(part, ON, GO).shown, ("on", "on"))
        self.assertEqual(played(part, ON, GO, OFF).shown, ("off", "on"))


class Later(unittest.TestCase):

    PART = screen(handler(SAY_X, later(("say", "x"), ("say", "y")), ("put", "x", "on"), later(("say", "x"))),
                  ("handler", "stop", None, (later(("say", "x"), ("say", "x")),)), inputs=("x", "y"),
                  events=("go", "stop"))

    def test_the_words_are_those_of_the_run_at_the_row(self):
        deed = played(self.PART, GO, words=("off", "off"))
        self.assertEqual(deed.after[3], (((0, 0, 1, 0), ("off", "off"), ()), ((0, 0, 3, 0), ("on",), ())))
        self.assertEqual(items(deed, "later"), [("later", (0, 0, 1), ("off", "off"), ()),
                                                ("later", (0, 0, 3), ("on",), ())])
        self.assertEqual([deed.said, deed.calls], [("off",), 0])

    def test_they_wait_in_order_and_are_run_once(self):
        standing = played(self.PART, STOP, GO, words=("off", "on")).after
        said = []
        for count in range(5):
            deed = go_on(self.PART, standing, TICK)
            said.append((deed.said, len(deed.after[3])))
            standing = deed.after
        self.assertEqual(said, [(("off", "off"), 2), (("off", "on"), 1), (("on",), 0), ((), 0), ((), 0)])

    def test_a_tick_without_any_does_nothing(self):
        for rule in RULES:
            first = start(self.PART, ("off", "on"), rule)
            self.assertEqual(told(go_on(self.PART, first.after, TICK, rule=rule)),
                             (TICK, first.after, first.after, (), (), (), 0, ()))

    def test_the_fourth_is_refused(self):
        standing = played(self.PART, GO, words=("off", "on")).after
        self.assertEqual(outcome(lambda: go_on(self.PART, standing, GO)), ("full", (0, 0, 3)))
        standing = go_on(self.PART, standing, STOP).after
        self.assertEqual(outcome(lambda: go_on(self.PART, standing, STOP)), ("full", (1, 0, 0)))
        self.assertEqual(outcome(lambda: go_on(self.PART, standing, GO)), ("full", (0, 0, 1)))
        with self.assertRaises(TooManyLater):
            go_on(self.PART, standing, GO)
        self.assertEqual(go_on(self.PART, standing, TICK, STOP).after[3][2], ((1, 0, 0, 0), ("off",), ()))

    def test_a_function_that_is_run_waits_no_more(self):
        # The tick takes one away before the effect of its call puts off another one.
        part = screen(CELL, handler(later(TURN_A), slots=()), effect(later(SAY_A), slots=("a",)))
        standing = played(part, TICK, GO, GO, GO).after
        self.assertEqual([item[0] for item in standing[3]], [(1, 0, 0, 0)] * 3)
        for rule in RULES:
            deed = go_on(part, standing, TICK, rule=rule)
            self.assertEqual([item[0] for item in deed.after[3]], [(1, 0, 0, 0), (1, 0, 0, 0), (2, 0, 0, 0)])

    def test_put_off_by_a_press_a_tick_and_an_effect(self):
        part = screen(CELL, handler(later(TURN_A)), effect(later(SAY_A, ("write", "b", "a")), slots=("a",)), BOX)
        first = start(part)
        self.assertEqual(first.after[3], (((2, 0, 0, 0), ("off",), (3,)),))
        second = go_on(part, first.after, GO)
        self.assertEqual(second.after[3], (((2, 0, 0, 0), ("off",), (3,)), ((1, 0, 0, 0), (), (0,))))
        third = go_on(part, second.after, TICK)
        self.assertEqual([third.said, third.after[3]], [("off",), (((1, 0, 0, 0), (), (0,)),)])
        fourth = go_on(part, third.after, TICK)
        self.assertEqual(fourth.after[3], (((2, 0, 0, 0), ("on",), (3,)),))
        self.assertEqual(fourth.trace[0], ("run", (1, 0, 0, 0), None, (), (0,)))

    def test_numbers_are_those_that_the_run_holds(self):
        part = screen(either(CELL, other=(("cell", "c", "off"),)),
                      handler(later(TURN_A, ("turn", "c", SWAP)), slots=()),
                      SHOW_A, ("show", "c"))
        standing = played(part, OFF, GO, words=("on",)).after
        self.assertEqual(standing[3], (((1, 0, 0, 0), (), (0, None)),))
        deed = go_on(part, standing, TICK)
        self.assertEqual([deed.shown, items(deed, "turn")],
                         [("off", "on"), [("turn", (1, 0, 0, 0, 0), 0), ("turn", (1, 0, 0, 0, 1), None)]])

    def test_a_word_that_is_fetched_ahead_of_the_later_row(self):
        part = screen(BOX, handler(("fetch", "b", "y"), later(("say", "y"))),
                      ("handler", "stop", None, (("write", "b", "x"),)), events=("go", "stop"))
        self.assertEqual(played(part, STOP, GO, TICK, words=("on",)).said, ("on",))

    def test_too_many_in_a_start(self):
        part = screen(effect(later(), later()), effect(later(), later()))
        self.assertEqual(outcome(lambda: start(part)), ("full", (1, 0, 1)))


class Batch(unittest.TestCase):

    WORDS = ("a", "b", "c")
    TURN = ("turn", "a", ("b", "c", "a"))

    def part(self, *rows, more=()):
        return screen(("cell", "a", "a"), ("cell", "c", "a"), handler(*rows), *more, words=self.WORDS)

    def test_each_applies_every_set_and_turn_by_itself(self):
        part = self.part(self.TURN, ("set", "c", "x"), self.TURN)
        together = played(part, GO, words=("b",))
        each = played(part, GO, words=("b",), rule=EACH)
        self.assertEqual([together.calls, each.calls, together.after == each.after], [1, 3, True])
        self.assertEqual([item[0] for item in together.trace], ["run", "turn", "set", "turn"] + ["cell"] * 3 + ["call"])
        self.assertEqual([item[0] for item in each.trace], ["run", "turn", "cell", "call", "set", "cell", "call",
                                                            "turn",
                                                            "cell", "call"])

    def test_pass_and_call_for_each_of_them(self):
        part = self.part(("set", "a", "x"), self.TURN, ("turn", "a", ("a", "b", "c")))
        self.assertEqual([played(part, GO, words=("a",), rule=rule).calls for rule in RULES], [1, 1, 1, 3])

    def test_slots_and_numbers_of_the_run_stay(self):
        part = self.part(("say", "a"), self.TURN, ("say", "a"), ("set", "c", "a"), self.TURN, ("say", "a"))
        deed = played(part, GO, words=("a",), rule=EACH_CALL)
        self.assertEqual([deed.said, deed.calls], [("a", "a", "a"), 3])
        self.assertEqual([entry[1] for entry in deed.after[2][:2]], ["c", "a"])

    def test_numbers_stay_though_the_rows_take_other_entries(self):
        part = screen(CELL, handler(TURN_A, ("turn", "c", SWAP), slots=()),
                      either(("cell", "c", "off"), other=(("cell", "d", "off"),), slot="a", word="off"), SHOW_A)
        deed = played(part, GO, rule=EACH)
        self.assertEqual(items(deed, "turn", "cell"),
                         [("turn", (1, 0, 0), 0), ("cell", 0, "on"), ("turn", (1, 0, 1), 2), ("cell", 2, "on")])
        self.assertEqual(deed.after[1], ((0,), (1,), (2, 1, 0)))

    def test_effects_run_amid_the_run(self):
        more = (effect(("say", "a"), ("write", "b", "a"), slots=("a",)), ("box", "b", "a"))
        part = self.part(("fetch", "b", "y"), ("say", "y"), self.TURN, ("fetch", "b", "y"), ("say", "y"), self.TURN,
                         more=more)
        deed = played(part, GO, words=("a",), rule=EACH)
        self.assertEqual(deed.said, ("a", "b", "b", "c"))
        self.assertEqual(runs(deed), [((2, 0), 2), ((3, 0), 3), ((3, 0), 3)])
        self.assertEqual(played(part, GO, words=("a",)).said, ("a", "a", "c"))

    def test_sets_of_effects_amid_the_run_are_gathered(self):
        more = (effect(("set", "c", "a"), ("turn", "c", ("b", "c", "a")), slots=("a",)), ("show", "c"))
        part = self.part(self.TURN, ("say", "a"), self.TURN, more=more)
        deed = played(part, GO, words=("a",), rule=EACH)
        self.assertEqual([item[1:] for item in items(deed, "cell")],
                         [(0, "b"), (1, "b"), (1, "c"), (0, "c"), (1, "c"), (1, "a")])
        self.assertEqual([deed.calls, deed.shown], [4, ("a",)])

    def test_those_without_a_number_call_nothing(self):
        part = screen(either(CELL), handler(TURN_A, SAY_X, TURN_A))
        for rule in RULES:
            self.assertEqual(played(part, GO, rule=rule).calls, 0)

    def test_a_tick_is_run_from_outside_too(self):
        part = screen(CELL, handler(later(TURN_A, SAY_A, TURN_A)), SHOW_A)
        self.assertEqual([played(part, GO, TICK, rule=rule).calls for rule in RULES], [0, 1, 2, 2])

    def test_a_later_row_behind_a_set_waits_behind_those_of_the_effects(self):
        part = screen(CELL, handler(TURN_A, later(SAY_A)), effect(later(SAY_A), slots=("a",)))
        standing = played(part, TICK).after
        self.assertEqual([item[0][0] for item in go_on(part, standing, GO).after[3]], [1, 2])
        self.assertEqual([item[0][0] for item in go_on(part, standing, GO, rule=EACH).after[3]], [2, 1])

    def test_a_slip_amid_the_run_refuses_the_whole_event(self):
        part = screen(CELL, handler(TURN_A, TURN_A), either(("box", "b", "off"), slot="a"))
        self.assertEqual(outcome(lambda: played(part, GO, rule=EACH)), ("slip", (2, 0, 0)))
        self.assertEqual(played(part, GO).calls, 0)


if __name__ == "__main__":
    unittest.main()
