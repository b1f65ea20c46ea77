"""Points 21 to 24: runs of functions, links, effects behind a call, gathered sets and turns."""

import unittest

from calledanew.calling import step
from deeds import CALL, GO, OFF, ON, PASS, RULES, SWAP, TICK, go_on, items, played, runs, screen, start
from samples import effect, either, handler, later

SHOW_A = ("show", "a")
TURN_A = ("turn", "a", SWAP)
CELL = ("cell", "a", "off")
BOX = ("box", "b", "off")
ROUND = ("b", "c", "a")


class Rows(unittest.TestCase):
    """Each function row in each kind of function."""

    # Each form of row but later; a function has at most 8 rows, so they are done by two.
    FIRST = (("say", "x"), ("put", "p", "on"), ("say", "p"), ("map", "m", "p", SWAP), ("say", "m"),
             either(("say", "m"), other=(("say", "p"),), slot="m"))
    SECOND = (("put", "p", "on"), ("write", "b", "p"), ("fetch", "b", "f"), ("say", "f"), ("set", "a", "f"), TURN_A)
    SAID = ("off", "on", "off", "on")

    def test_in_bodies(self):
        deed = played(screen(CELL, BOX, effect(*self.FIRST), effect(*self.SECOND), SHOW_A))
        self.assertEqual(deed.said, self.SAID + ("on",))
        self.assertEqual([deed.after[2][:2], deed.shown], [(("cell", "off"), ("box", "on")), ("off",)])

    def test_in_cleans(self):
        part = screen(CELL, BOX, effect(clean=self.FIRST, slots=("x",)), effect(clean=self.SECOND, slots=("x",)),
                      SHOW_A)
        self.assertEqual(played(part).said, ())
        deed = played(part, ON)
        self.assertEqual(deed.said, self.SAID + ("on",))
        self.assertEqual(deed.after[2][:2], (("cell", "off"), ("box", "on")))

    def test_in_handlers(self):
        part = screen(CELL, BOX, handler(*self.FIRST), ("handler", "stop", None, self.SECOND), SHOW_A,
                      events=("go", "stop"))
        self.assertEqual(played(part, GO).said, self.SAID)
        deed = played(part, ("press", "stop"))
        self.assertEqual([deed.said, deed.after[2][:2]], [("on",), (("cell", "off"), ("box", "on"))])

    def test_in_later_rows_of_handlers_and_of_effects(self):
        part = screen(CELL, BOX, handler(later(*self.FIRST[:-1])),
                      ("handler", "stop", None, (later(*self.SECOND[:-1]),)),
                      SHOW_A, events=("go", "stop"))
        self.assertEqual([played(part, GO).said, played(part, GO, TICK).said], [(), self.SAID[:-1]])
        deed = played(part, ("press", "stop"), TICK)
        self.assertEqual([deed.said, deed.shown, deed.after[2][1]], [("on",), ("on",), ("box", "on")])
        part = screen(CELL, BOX, effect(later(*self.FIRST[:-1])), effect(later(*self.SECOND[:-1])), SHOW_A)
        self.assertEqual([played(part, TICK).said, played(part, TICK, TICK).said], [self.SAID[:-1], ("on",)])
        self.assertEqual(played(part, TICK, TICK).shown, ("on",))

    def test_each_half_of_if_rows_two_deep(self):
        part = screen(handler(either(either(("say", "x"), slot="y"), other=(("put", "y", "on"), ("say", "y"))),
                              ("say", "y")))
        self.assertEqual([played(part, GO).said, played(part, GO, words=("on",)).said], [("on", "on"), ("off",)])

    def test_changes_of_slots_are_those_of_this_run_alone(self):
        part = screen(BOX, effect(("put", "x", "on"), ("say", "x"), slots=("x",)), effect(("say", "x"), slots=("x",)),
                      handler(("say", "x"), ("map", "x", "x", SWAP), ("say", "x")), ("show", "x"))
        first = start(part)
        self.assertEqual([first.said, first.shown], [("on", "off"), ("off",)])
        for count in range(2):
            second = go_on(part, first.after, GO)
            self.assertEqual([second.said, second.after], [("off", "on"), first.after])

    def test_a_run_begins_with_the_words_that_were_held(self):
        part = screen(handler(("say", "x"), ("say", "y"), slots=()), inputs=("x", "y"))
        self.assertEqual(played(part, ON, GO, words=("off", "on")).said, ("off", "on"))

    def test_a_function_without_rows(self):
        part = screen(handler(), effect())
        self.assertEqual([runs(played(part)), runs(played(part, GO))], [[((1, 0), 1)], [((0, 0), 0)]])


class Numbers(unittest.TestCase):

    def test_numbers_that_are_none(self):
        rows = (("set", "a", "x"), TURN_A, ("write", "b", "x"), ("fetch", "b", "y"), ("say", "y"))
        part = screen(either(CELL, BOX), handler(*rows))
        for rule in RULES:
            first = start(part, rule=rule)
            deed = go_on(part, first.after, GO, rule=rule)
            self.assertEqual(deed.trace, (
                ("run", (1, 0), 0, ("off",), (None, None)), ("set", (1, 0, 0), None, "off"), ("turn", (1, 0, 1), None),
                ("write", (1, 0, 2), None, "off"), ("fetch", (1, 0, 3), None, "off"), ("say", (1, 0, 4), "off")))
            self.assertEqual([deed.calls, deed.after], [0, first.after])

    def test_a_fetch_without_number_gives_the_default_word(self):
        part = screen(either(BOX, slot="x", word="on"), handler(("put", "y", "on"), ("fetch", "b", "y"), ("say", "y")),
                      words=("dim", "off", "on"))
        self.assertEqual(played(part, GO, words=("off",)).said, ("dim",))

    def test_an_entry_that_another_row_took_later(self):
        part = screen(either(CELL, other=(("cell", "c", "off"),)), SHOW_A, ("show", "c"), handler(TURN_A, slots=()),
                      either(BOX, other=(("box", "d", "off"),)),
                      effect(("write", "b", "x"), ("fetch", "b", "y"), slots=()))
        standing = played(part, OFF, words=("on",)).after
        self.assertEqual(standing[1][0], (0, 1, 0))
        deed = go_on(part, standing, GO)
        self.assertEqual([deed.shown, deed.after[2][0]], [("off", "on"), ("cell", "on")])

    def test_a_box_entry_that_another_row_took_later(self):
        part = screen(either(BOX, other=(("box", "d", "off"),)), handler(("write", "b", "x"), slots=()),
                      ("handler", "stop", None, (("fetch", "d", "y"), ("say", "y"))), events=("go", "stop"))
        self.assertEqual(played(part, OFF, GO, ("press", "stop"), words=("on",)).said, ("on",))


class Boxes(unittest.TestCase):

    def test_a_write_is_read_by_a_later_fetch_of_the_same_run(self):
        part = screen(BOX, handler(("fetch", "b", "y"), ("say", "y"), ("write", "b", "x"), ("fetch", "b", "y"),
                                   ("say", "y")))
        deed = played(part, GO, words=("on",))
        self.assertEqual([deed.said, items(deed, "write", "fetch")], [
            ("off", "on"),
            [("fetch", (1, 0, 0), 0, "off"), ("write", (1, 0, 2), 0, "on"), ("fetch", (1, 0, 3), 0, "on")]])

    def test_a_write_is_read_by_the_next_run(self):
        part = screen(BOX, effect(("write", "b", "x"), slots=("x",)),
                      effect(("fetch", "b", "y"), ("say", "y"), slots=("x",)))
        self.assertEqual([played(part).said, played(part, ON).said], [("off",), ("on",)])

    def test_a_box_written_and_refused_later_is_as_it_was(self):
        part = screen(BOX, handler(("write", "b", "x"), later(), later(), later(), later()))
        first = start(part, ("on",))
        with self.assertRaises(ValueError):
            go_on(part, first.after, GO)
        self.assertEqual(first.after[2][0], ("box", "off"))


class Effects(unittest.TestCase):

    def test_all_cleans_come_first_and_then_all_bodies(self):
        part = screen(effect(("say", "x"), clean=(("say", "x"),), slots=("x",)),
                      effect(("say", "x"), clean=(("say", "x"), ("say", "x")), slots=None),
                      effect(("say", "x"), clean=(("say", "x"),), slots=()))
        self.assertEqual(runs(played(part)), [((0, 0), 0), ((1, 0), 1), ((2, 0), 2)])
        deed = played(part, ON)
        self.assertEqual(runs(deed), [((0, 1), 0), ((1, 1), 1), ((0, 0), 0), ((1, 0), 1)])
        self.assertEqual(deed.said, ("off",) * 3 + ("on",) * 2)

    def test_a_clean_without_rows_is_not_run(self):
        part = screen(effect(slots=None), effect(slots=None, clean=(either(),)))
        self.assertEqual(runs(played(part, ON)), [((1, 1), 1), ((0, 0), 0), ((1, 0), 1)])

    def test_the_clean_has_the_words_and_numbers_of_the_elder_entry(self):
        part = screen(either(effect(slots=("x",), clean=(("say", "x"), TURN_A)), other=(effect(slots=("x",)),)),
                      either(CELL, other=(("cell", "c", "off"),)), ("cell", "d", "off"))
        deed = played(part, OFF, words=("on",))
        self.assertEqual(deed.trace[1:4], (("run", (0, 0, 0, 1), 0, ("on",), (1,)), ("say", (0, 0, 0, 1, 0), "on"),
                                           ("turn", (0, 0, 0, 1, 1), 1)))
        self.assertEqual(deed.after[2][1], ("cell", "on"))

    def test_sets_and_turns_of_all_runs_are_gathered(self):
        part = screen(("cell", "a", "a"), effect(("set", "a", "x"), slots=("x",), clean=(("turn", "a", ROUND),)),
                      effect(("turn", "a", ROUND), ("say", "a"), slots=("x",)), SHOW_A, words=("a", "b", "c"))
        deed = played(part, ("hand", "x", "b"), words=("a",))
        # The clean, the set and the turn; the words that are said are those before.
        self.assertEqual([deed.said, items(deed, "cell")], [("b",),
                                                            [("cell", 0, "c"), ("cell", 0, "b"), ("cell", 0, "c")]])
        self.assertEqual([deed.shown, deed.calls], [("c",), 2])

    def test_they_are_applied_behind_all_runs(self):
        part = screen(CELL, effect(TURN_A, slots=()), effect(("say", "x"), slots=()), effect(TURN_A, slots=()))
        self.assertEqual([item[0] for item in played(part).trace],
                         ["call", "run", "turn", "run", "say", "run", "turn", "cell", "cell"])

    def test_those_of_cleans_are_gathered_too(self):
        part = screen(CELL, effect(("say", "x"), slots=("x",), clean=(TURN_A,)), effect(TURN_A, slots=("x",)), SHOW_A)
        for rule in RULES:
            deed = played(part, ON, rule=rule)
            self.assertEqual([item[0] for item in deed.trace][:8],
                             ["call", "run", "turn", "run", "say", "run", "turn", "cell"])
            self.assertEqual([item[2] for item in items(deed, "cell")], ["off", "on"])

    def test_batch_does_not_matter_for_effects(self):
        part = screen(CELL, effect(TURN_A, ("say", "a"), slots=("x",), clean=(TURN_A, ("say", "a"))), SHOW_A)
        for words in (("off",), ("on",)):
            for event in (ON, OFF):
                told = [played(part, event, words=words, rule=rule).trace for rule in RULES]
                self.assertEqual([told[0], told[1]], [told[2], told[3]])

    def test_calls_go_on_until_nothing_changes(self):
        part = screen(("cell", "a", "a"), effect(either(other=(("turn", "a", ROUND),), slot="a", word="c"),
                                                 slots=("a",)),
                      SHOW_A, words=("a", "b", "c"))
        deed = played(part, words=("a",))
        self.assertEqual([deed.calls, deed.shown], [3, ("c",)])
        self.assertEqual([item[3] for item in items(deed, "call")], [("a",), ("b",), ("c",)])


class Applied(unittest.TestCase):

    def cell_items(self, *rows, rule=PASS, words=("a",)):
        part = screen(("cell", "a", "a"), ("cell", "c", "a"), handler(*rows), words=("a", "b", "c"))
        deed = played(part, GO, words=words, rule=rule)
        return [item[1:] for item in items(deed, "cell")], deed.calls

    def test_in_the_order_in_which_their_rows_were_done(self):
        turn = ("turn", "a", ROUND)
        self.assertEqual(self.cell_items(turn, ("turn", "c", ROUND), turn), ([(0, "b"), (1, "b"), (0, "c")], 1))

    def test_a_turn_of_a_word_that_was_set_ahead_of_it(self):
        rows = (("set", "a", "x"), ("turn", "a", ROUND))
        self.assertEqual(self.cell_items(*rows, words=("b",)), ([(0, "b"), (0, "c")], 1))
        self.assertEqual(self.cell_items(*rows[::-1], words=("b",)), ([(0, "b"), (0, "b")], 1))

    def test_a_set_has_the_word_of_the_slot_at_its_row(self):
        rows = (("map", "x", "x", ROUND), ("set", "a", "x"), ("map", "x", "x", ROUND), ("set", "c", "x"))
        self.assertEqual(self.cell_items(*rows), ([(0, "b"), (1, "c")], 1))

    def test_pass_and_call(self):
        turn = ("turn", "a", ROUND)
        same = ("turn", "a", ("a", "b", "c"))
        for rows, changed in (((), None), ((same,), False), ((("set", "a", "x"),), False), ((turn, turn, turn), False),
                              ((turn,), True), ((same, turn), True), ((turn, turn), True)):
            expected = [1 if changed else 0, 0 if changed is None else 1]
            self.assertEqual([self.cell_items(*rows, rule=rule)[1] for rule in (PASS, CALL)], expected)

    def test_a_write_alone_calls_nothing(self):
        part = screen(BOX, CELL, handler(("write", "b", "x")), effect(("write", "b", "y"), slots=None))
        for rule in RULES:
            self.assertEqual(played(part, GO, words=("on",), rule=rule).calls, 0)
            self.assertEqual(played(part, words=("on",), rule=rule).calls, 1)

    def test_a_change_that_is_taken_back_by_another_cell_is_one(self):
        part = screen(CELL, ("cell", "c", "on"), handler(TURN_A, ("turn", "c", SWAP)))
        self.assertEqual(played(part, GO).calls, 1)

    def test_those_whose_number_is_none_are_left_out(self):
        part = screen(either(("cell", "c", "off")), CELL, handler(("turn", "c", SWAP), TURN_A))
        deed = played(part, GO)
        self.assertEqual(items(deed, "turn", "cell"), [("turn", (2, 0, 0), None), ("turn", (2, 0, 1), 0),
                                                       ("cell", 0, "on")])

    def test_the_word_at_the_moment_of_applying(self):
        # A box write and a call amid the run do not stand between a gathered turn and its end.
        part = screen(CELL, effect(("say", "a"), slots=("a",)), handler(TURN_A, ("say", "a"), TURN_A, TURN_A))
        self.assertEqual([item[2] for item in items(played(part, GO), "cell")], ["on", "off", "on"])
        self.assertEqual(played(part, GO).said, ("off", "on"))

    def test_standings_that_no_history_reaches(self):
        part = screen(CELL, ("cell", "c", "on"), handler(TURN_A, ("say", "x"), slots=()), SHOW_A, ("show", "c"))
        standing = (("off",) * 3, ((0,), (1,), (2,)), (("cell", "off"), ("cell", "off"),
                                                       ("handler", (2,), (), (("on",), (1,)))), (), ("on",) * 16)
        deed = step(part, PASS, standing, GO)
        self.assertEqual([deed.said, deed.shown, deed.trace[:2]],
                         [("on",), ("off", "on"), (("run", (2, 0), 2, ("on",), (1,)), ("turn", (2, 0, 0), 1))])


if __name__ == "__main__":
    unittest.main()
