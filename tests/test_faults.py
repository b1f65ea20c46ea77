"""Point 30: the faults of starts and events."""

import unittest

from calledanew.judge import KINDS, faults
from deeds import CALL, EACH, EACH_CALL, GO, OFF, ON, PASS, RULES, SAME, SWAP, TICK, go_on, played, screen, start
from samples import effect, either, handler, later

CELL = ("cell", "a", "off")
BOX = ("box", "b", "off")
TURN_A = ("turn", "a", SWAP)
SAY_A = ("say", "a")
SAY_X = ("say", "x")
ROUND = ("b", "c", "a")


def found(part, deed):
    return faults(part, deed.before, deed.trace, deed.after)


def faults_of(part, *events, words=("off",), rule=PASS):
    """The faults of the last event."""
    return found(part, played(part, *events, words=words, rule=rule))


class Kinds(unittest.TestCase):

    def test_the_tuple(self):
        self.assertEqual(KINDS, ("mixed", "old", "stale", "late", "missed", "needless", "crossed", "slip", "full",
                                 "round"))


class Mixed(unittest.TestCase):

    def test_each_kind_of_hook(self):
        pairs = [(("cell", "a", "on"), ("cell", "c", "off")), (("box", "b", "on"), ("box", "d", "off")),
                 (("kept", "k", "x", SAME, ("x",)), ("kept", "m", "x", SAME, ("x",))),
                 (handler(), handler()), (("handler", "go", (), ()), ("handler", "stop", (), ()))]
        for first, second in pairs:
            part = screen(either(first, other=(second,)), events=("go", "stop"))
            self.assertEqual(faults_of(part, ON), [("mixed", (0, 0, 0))])
            self.assertEqual(faults_of(part, OFF, words=("on",)), [("mixed", (0, 1, 0))])
            self.assertEqual(faults_of(part, ON, GO), [])

    def test_an_effect(self):
        part = screen(either(effect(slots=("x",)), other=(effect(slots=("x",)),)))
        self.assertEqual(faults_of(part, ON), [("mixed", (0, 0, 0))])

    def test_rows_behind_that_take_the_entry_ahead(self):
        part = screen(either(("cell", "a", "on"), slot="x"), ("cell", "c", "off"), ("cell", "d", "off"),
                      either(("cell", "e", "off"), slot="x", word="off"))
        self.assertEqual(faults_of(part, ON), [("mixed", (0, 0, 0)), ("mixed", (1,)), ("mixed", (2,))])
        self.assertEqual(faults_of(part, OFF, words=("on",)), [("mixed", (1,)), ("mixed", (2,)), ("mixed", (3, 0, 0))])

    def test_a_start_has_none_in_its_first_call(self):
        part = screen(either(("cell", "a", "on"), other=(("cell", "c", "off"),)))
        for word in ("off", "on"):
            self.assertEqual(faults_of(part, words=(word,)), [])

    def test_a_later_call_of_a_start(self):
        part = screen(CELL, either(("box", "b", "on"), other=(("box", "d", "off"),), slot="a"),
                      effect(TURN_A, slots=()))
        self.assertEqual(faults_of(part), [("mixed", (1, 0, 0))])

    def test_each_call_is_compared_with_the_one_before_it(self):
        part = screen(CELL, either(("box", "b", "on"), other=(("box", "d", "off"),), slot="a"), handler(TURN_A, TURN_A))
        self.assertEqual([faults_of(part, GO), faults_of(part, GO, rule=EACH)],
                         [[], [("mixed", (1, 0, 0)), ("mixed", (1, 1, 0))]])


class Old(unittest.TestCase):

    def test_a_kept_row_without_its_from(self):
        part = screen(("kept", "k", "x", SWAP, ("y",)), inputs=("x", "y"))
        two = ("off", "off")
        self.assertEqual(faults_of(part, words=two), [])
        self.assertEqual(faults_of(part, ON, words=two), [("old", (0,))])
        self.assertEqual(faults_of(part, ON, OFF, words=two), [])
        self.assertEqual(faults_of(part, ON, ("hand", "y", "on"), words=two), [])

    def test_a_word_that_the_table_gives_too(self):
        part = screen(("kept", "k", "x", ("b", "b", "c"), ()), words=("a", "b", "c"))
        self.assertEqual(faults_of(part, ("hand", "x", "b"), words=("a",)), [])
        self.assertEqual(faults_of(part, ("hand", "x", "c"), words=("a",)), [("old", (0,))])

    def test_in_if_rows_and_amid_an_event(self):
        part = screen(CELL, either(other=(either(("kept", "k", "a", SAME, ()), slot="x", word="off"),)),
                      handler(TURN_A, TURN_A))
        self.assertEqual([faults_of(part, GO), faults_of(part, GO, rule=EACH)], [[], [("old", (1, 1, 0, 0, 0))]])

    def test_no_duplicates(self):
        part = screen(("cell", "a", "a"), ("kept", "k", "a", ("a", "b", "c"), ()),
                      handler(("turn", "a", ROUND), ("turn", "a", ROUND)), words=("a", "b", "c"))
        self.assertEqual(faults_of(part, GO, words=("a",), rule=EACH), [("old", (1,))])


class Stale(unittest.TestCase):

    def test_a_handler_with_an_old_word(self):
        part = screen(handler(SAY_X, slots=()))
        self.assertEqual(faults_of(part, GO), [])
        self.assertEqual(faults_of(part, ON), [])
        self.assertEqual(faults_of(part, ON, GO), [("stale", (0,))])
        self.assertEqual(faults_of(part, ON, OFF, GO), [])

    def test_slots_that_it_does_not_hold_do_not_count(self):
        part = screen(handler(("put", "x", "on"), SAY_X, ("say", "y"), slots=()), inputs=("x", "y"))
        self.assertEqual(faults_of(part, ON, GO, words=("off", "off")), [])
        self.assertEqual(faults_of(part, ("hand", "y", "on"), GO, words=("off", "off")), [("stale", (0,))])

    def test_one_of_several_slots(self):
        part = screen(handler(SAY_X, ("say", "y"), slots=("x",)), inputs=("x", "y"))
        self.assertEqual(faults_of(part, ON, GO, words=("off", "off")), [])
        self.assertEqual(faults_of(part, ("hand", "y", "on"), GO, words=("off", "off")), [("stale", (0,))])

    def test_in_an_if_row_and_by_the_function_of_another_row(self):
        part = screen(either(handler(SAY_X, slots=()), other=(handler(SAY_X, slots=()),)))
        self.assertEqual(faults_of(part, ON, GO), [("stale", (0, 1, 0))])

    def test_a_call_amid_the_run_makes_no_run_stale(self):
        part = screen(CELL, handler(TURN_A, SAY_A, slots=("a",)))
        for rule in RULES:
            self.assertEqual(faults_of(part, GO, rule=rule), [])

    def test_effects_and_later_rows_are_never_stale(self):
        part = screen(effect(SAY_X, clean=(SAY_X,), slots=("y",)), handler(later(SAY_X)), inputs=("x", "y"))
        kinds = [kind for events in ((ON,), (ON, ("hand", "y", "on")), (GO, ON, TICK))
                 for kind, path in faults_of(part, *events, words=("off", "off"))]
        self.assertEqual(sorted(set(kinds)), ["late", "missed"])


class Late(unittest.TestCase):

    def test_a_later_row_with_an_old_word(self):
        part = screen(handler(later(SAY_X)))
        self.assertEqual(faults_of(part, GO, TICK), [])
        self.assertEqual(faults_of(part, GO, ON, TICK), [("late", (0, 0, 0))])
        self.assertEqual(faults_of(part, GO, ON), [])
        self.assertEqual(faults_of(part, GO, ON, OFF, TICK), [])

    def test_of_an_effect_and_inside_an_if_row_of_the_call(self):
        part = screen(either(effect(SAY_X, later(SAY_X), slots=()), slot="y", word="off"))
        self.assertEqual(faults_of(part, TICK), [])
        self.assertIn(("late", (0, 0, 0, 0, 1)), faults_of(part, ON, TICK))

    def test_slots_that_the_function_around_changes_do_not_count(self):
        for row in (("put", "x", "on"), ("map", "x", "y", SAME), ("fetch", "b", "x")):
            for inside in (lambda row: row, lambda row: either(row, slot="y"),
                           lambda row: either(other=(row,), slot="y"),
                           lambda row: either(either(row, slot="y"), slot="y")):
                for rows in ((inside(row), later(SAY_X)), (later(SAY_X), inside(row))):
                    part = screen(handler(*rows, slots=None), BOX)
                    self.assertEqual([fault for fault in faults_of(part, GO, ON, TICK) if fault[0] == "late"], [])

    def test_the_other_held_slots_count(self):
        part = screen(handler(("put", "x", "on"), later(SAY_X, ("say", "y"))), inputs=("x", "y"))
        two = ("off", "off")
        self.assertEqual(faults_of(part, GO, OFF, TICK, words=two), [])
        self.assertEqual(faults_of(part, GO, ("hand", "y", "on"), TICK, words=two), [("late", (0, 0, 1))])

    def test_slots_that_other_rows_change_count(self):
        for rows in ((later(("put", "x", "on")), later(SAY_X)), (("write", "b", "x"), later(SAY_X)),
                     (("put", "y", "on"), later(SAY_X)), (("set", "a", "x"), later(SAY_X)),
                     (later(SAY_X, ("put", "x", "on")), SAY_X)):
            part = screen(CELL, BOX, handler(*rows))
            fault = [("late", (2, 0, place)) for place, row in enumerate(rows) if row[0] == "later" and SAY_X in row[1]]
            standing = played(part, GO, ON).after
            deeds = [go_on(part, standing, *[TICK] * count) for count in (1, 2)]
            self.assertEqual([item for deed in deeds for item in found(part, deed) if item[0] == "late"], fault)

    def test_the_rows_of_another_function_change_nothing(self):
        part = screen(handler(later(SAY_X)), effect(("put", "x", "on"), clean=(("put", "x", "on"),)),
                      ("handler", "stop", None, (("put", "x", "on"),)), events=("go", "stop"))
        self.assertEqual(faults_of(part, GO, ON, TICK), [("late", (0, 0, 0))])


class Missed(unittest.TestCase):

    def test_an_effect_with_an_old_word(self):
        part = screen(effect(SAY_X, slots=()))
        self.assertEqual(faults_of(part), [])
        self.assertEqual(faults_of(part, ON), [("missed", (0,))])
        self.assertEqual(faults_of(part, ON, OFF), [])

    def test_it_stays_though_nothing_happens(self):
        part = screen(effect(SAY_X, slots=()))
        self.assertEqual(faults_of(part, ON, TICK), [("missed", (0,))])
        self.assertEqual(faults_of(part, ON, GO, ON), [("missed", (0,))])

    def test_words_of_the_clean_do_not_count(self):
        part = screen(effect(clean=(SAY_X,)))
        self.assertEqual(faults_of(part, ON), [])

    def test_an_entry_with_another_path(self):
        part = screen(either(effect(), other=(effect(),)))
        self.assertEqual(faults_of(part, ON), [("mixed", (0, 0, 0)), ("missed", (0, 0, 0))])
        self.assertEqual(faults_of(part, ON, TICK), [("missed", (0, 0, 0))])

    def test_a_handler_misses_nothing(self):
        part = screen(handler(SAY_X, slots=()))
        self.assertEqual(faults_of(part, ON), [])

    def test_only_the_standing_behind_counts(self):
        part = screen(CELL, effect(SAY_A, slots=()), handler(TURN_A, TURN_A))
        self.assertEqual(faults_of(part, GO, rule=EACH), [])
        self.assertEqual(faults_of(part, GO, GO, rule=EACH), [])

    def test_with_the_later_rows_of_the_body(self):
        part = screen(effect(later(SAY_X)))
        self.assertEqual(faults_of(part, ON), [("missed", (0,))])


class Needless(unittest.TestCase):

    def test_a_body_that_is_run_again_with_the_same(self):
        part = screen(effect(("say", "y"), slots=("x",)))
        self.assertEqual(faults_of(part), [])
        self.assertEqual(faults_of(part, ON), [("needless", (0,))])
        part = screen(effect(SAY_X, slots=("x",)))
        self.assertEqual(faults_of(part, ON), [])
        part = screen(effect(SAY_X, slots=None))
        self.assertEqual([faults_of(part, ON), faults_of(part, OFF, rule=CALL)], [[], [("needless", (0,))]])

    def test_the_last_run_earlier_in_the_trace(self):
        part = screen(CELL, effect(SAY_A, slots=None), handler(TURN_A, TURN_A))
        self.assertEqual(faults_of(part, GO, rule=EACH), [])
        part = screen(("cell", "a", "a"), ("kept", "k", "a", ("a", "b", "b"), ("a",)),
                      effect(("say", "k"), slots=("a",)),
                      handler(("turn", "a", ROUND), ("turn", "a", ROUND)), words=("a", "b", "c"))
        self.assertEqual([faults_of(part, GO, words=("a",), rule=rule) for rule in (PASS, EACH)],
                         [[], [("needless", (2,))]])

    def test_a_start_has_none_of_its_first_runs(self):
        part = screen(CELL, effect(SAY_X, slots=None), effect(either(other=(TURN_A,), slot="a"), slots=("a",)))
        self.assertEqual(faults_of(part), [("needless", (1,))])
        part = screen(effect(), effect(), either(effect()))
        self.assertEqual(faults_of(part, words=("on",)), [])

    def test_two_hooks_with_the_same_function_words(self):
        part = screen(effect(("say", "y")), effect(("say", "y")))
        self.assertEqual(faults_of(part), [])

    def test_another_path_or_other_numbers(self):
        part = screen(either(effect(slots=("x",)), other=(effect(slots=("x",)),)))
        self.assertEqual(faults_of(part, ON), [("mixed", (0, 0, 0))])
        part = screen(effect(TURN_A, slots=("x",)), either(CELL, other=(("cell", "c", "off"),)))
        self.assertNotIn(("needless", (0,)), faults_of(part, ON))

    def test_a_clean_between_two_bodies(self):
        part = screen(effect(("say", "y"), clean=(("say", "y"),), slots=("x",)))
        self.assertEqual(faults_of(part, ON), [("needless", (0,))])

    def test_the_numbers_of_the_body_before(self):
        part = screen(BOX, effect(("write", "b", "y"), slots=("x",)), either(CELL, other=(("cell", "c", "off"),)),
                      effect(either(("turn", "c", SWAP), slot="x"), slots=("z",)))
        self.assertEqual(faults_of(part, ON), [("mixed", (2, 0, 0)), ("missed", (3,)), ("needless", (1,))])

    def test_a_clean_is_not_needless(self):
        part = screen(effect(SAY_X, clean=(("say", "y"),), slots=("x",)))
        self.assertEqual(faults_of(part, ON, OFF), [])

    def test_inside_an_if_row(self):
        part = screen(either(other=(either(effect(slots=("x", "y")), slot="x", word="b"),), word="c"),
                      inputs=("x", "y"),
                      words=("a", "b", "c"))
        self.assertEqual(faults_of(part, ("hand", "y", "b"), words=("b", "a")), [("needless", (0, 1, 0, 0, 0))])


class Crossed(unittest.TestCase):

    ROWS = [("set", "a", "y"), TURN_A, ("write", "b", "y"), ("fetch", "b", "z")]

    def test_numbers_that_are_none(self):
        for row in self.ROWS:
            part = screen(either(CELL, BOX), handler(row), effect(row))
            self.assertEqual(faults_of(part), [("crossed", (2, 0, 0))])
            self.assertEqual(faults_of(part, GO), [("crossed", (1, 0, 0))])
            self.assertEqual(faults_of(part, GO, words=("on",)), [])

    def test_numbers_of_other_rows(self):
        for row in self.ROWS:
            part = screen(either(CELL, other=(("cell", "c", "off"),)), either(BOX, other=(("box", "d", "off"),)),
                          handler(row, slots=()))
            self.assertEqual(faults_of(part, GO, words=("on",)), [])
            self.assertEqual(faults_of(part, OFF, GO, words=("on",)), [("crossed", (2, 0, 0))])
            self.assertEqual([kind for kind, path in faults_of(part, OFF, words=("on",))], ["mixed", "mixed"])
            self.assertEqual(faults_of(part, OFF, ON, GO, words=("on",)), [])

    def test_rows_that_are_not_done(self):
        part = screen(handler(either(TURN_A, slot="x")), either(CELL))
        self.assertEqual(faults_of(part, GO), [])

    def test_in_if_rows_later_rows_and_cleans(self):
        part = screen(either(CELL), handler(either(other=(either(TURN_A, slot="x", word="off"),), slot="x")))
        self.assertEqual(faults_of(part, GO), [("crossed", (1, 0, 0, 1, 0, 0, 0))])
        part = screen(either(CELL), handler(later(("say", "y"), TURN_A)))
        self.assertEqual([faults_of(part, GO), faults_of(part, GO, TICK)], [[], [("crossed", (1, 0, 0, 0, 1))]])
        part = screen(either(CELL), effect(clean=(TURN_A,), slots=None), inputs=("x", "z"))
        self.assertIn(("crossed", (1, 1, 0)), faults_of(part, ("hand", "z", "on"), words=("off", "off")))

    def test_the_latest_call_at_this_place(self):
        part = screen(CELL, either(("cell", "c", "off"), other=(("cell", "d", "off"),), slot="a", word="off"),
                      handler(("turn", "c", SWAP), TURN_A, ("turn", "c", SWAP), slots=()))
        self.assertEqual(faults_of(part, GO), [("mixed", (1, 1, 0))])
        self.assertEqual(faults_of(part, GO, rule=EACH), [("mixed", (1, 1, 0)), ("crossed", (2, 0, 2))])


class Order(unittest.TestCase):

    def test_kinds_in_their_order_and_paths_in_program_order(self):
        part = screen(*[("show", "x")] * 3,
                      effect(SAY_X, slots=()),
                      either(("kept", "k", "x", SAME, ()), other=(("kept", "m", "x", SAME, ()),)),
                      ("kept", "o", "x", SAME, ()),
                      *[("kept", "n" * count, "x", SAME, ()) for count in (1, 2, 3, 4, 5)],
                      effect(SAY_X, slots=()))
        self.assertEqual(faults_of(part, ON), [("mixed", (4, 0, 0)), ("old", (4, 0, 0))]
                         + [("old", (place,)) for place in range(5, 11)] + [("missed", (3,)), ("missed", (11,))])

    def test_many_kinds_at_once(self):
        part = screen(either(CELL, other=(("cell", "c", "off"),)), ("kept", "k", "x", SAME, ()),
                      effect(SAY_X, slots=()),
                      effect(("say", "z"), slots=("x",)), ("handler", "stop", (), (("set", "a", "x"), SAY_X)),
                      handler(later(SAY_X)), events=("go", "stop"))
        standing = played(part, GO, words=("on",)).after
        self.assertEqual(found(part, go_on(part, standing, OFF)),
                         [("mixed", (0, 1, 0)), ("old", (1,)), ("missed", (2,)), ("needless", (3,))])
        standing = go_on(part, standing, OFF).after
        deed = go_on(part, standing, TICK)
        self.assertEqual(found(part, deed), [("late", (5, 0, 0)), ("missed", (2,))])
        deed = go_on(part, standing, ("press", "stop"), rule=CALL)
        self.assertEqual(found(part, deed), [("old", (1,)), ("stale", (4,)), ("missed", (2,)), ("crossed", (4, 0, 0))])

    def test_a_new_list_of_new_pairs_each_time(self):
        part = screen(effect(SAY_X, slots=()))
        deed = played(part, ON)
        first = found(part, deed)
        first.clear()
        self.assertEqual(found(part, deed), [("missed", (0,))])
        self.assertIs(type(found(part, deed)), list)
        self.assertIs(type(found(part, deed)[0]), tuple)

    def test_the_arguments_stay(self):
        part = screen(CELL, effect(SAY_A, slots=()), handler(TURN_A))
        deed = played(part, GO)
        before = (deed.before, deed.trace, deed.after)
        found(part, deed)
        self.assertEqual((deed.before, deed.trace, deed.after), before)

    def test_parts_without_faults(self):
        part = screen(CELL, BOX, ("kept", "k", "a", SWAP, ("a",)), effect(SAY_A, slots=("a",)), handler(TURN_A, SAY_A))
        for rule in (PASS, CALL, EACH, EACH_CALL):
            standing = start(part, rule=rule).after
            for event in (GO, ON, GO, OFF, TICK, GO):
                deed = go_on(part, standing, event, rule=rule)
                self.assertEqual(found(part, deed), [])
                standing = deed.after


if __name__ == "__main__":
    unittest.main()
