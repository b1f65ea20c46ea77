"""Points 16 to 20: the calls, slips, hooks at their rows, and the end of a call."""

import unittest

from calledanew.calling import begin, step
from calledanew.errors import Slipped
from deeds import CALL, GO, OFF, ON, PASS, SAME, SWAP, go_on, items, played, runs, screen, start
from samples import effect, either, handler

SHOW_A = ("show", "a")
SAY_X = ("say", "x")


def slip_path(ask):
    try:
        ask()
    except Slipped as error:
        return error.path
    return None


class Slots(unittest.TestCase):

    def test_inputs_hold_their_words_and_other_slots_the_default_word(self):
        part = screen(("show", "x"), ("show", "y"), ("show", "z"), inputs=("x", "y"), words=("dim", "off", "on"))
        first = start(part, ("on", "off"))
        self.assertEqual(first.shown, ("on", "off", "dim"))
        self.assertEqual(go_on(part, first.after, ("hand", "y", "on")).shown, ("on", "on", "dim"))
        self.assertEqual(first.after[0], ("on", "off", "dim"))

    def test_put_map_and_if_from_the_top(self):
        part = screen(("show", "m"), ("put", "m", "on"), ("show", "m"), ("map", "n", "m", SWAP), ("show", "n"),
                      ("map", "n", "n", SWAP), ("show", "n"), either(("show", "m"),
                                                                     other=(("show", "n"), ("show", "x"))))
        first = start(part)
        self.assertEqual(first.shown, ("off", "on", "off", "on", "on", "off"))
        # Each call begins with the default word, whatever the call before has put.
        self.assertEqual(go_on(part, first.after, ON).shown, ("off", "on", "off", "on", "on"))

    def test_a_map_into_its_own_slot_with_a_table_for_more_words(self):
        part = screen(("map", "m", "x", ("b", "c", "a")), ("map", "m", "m", ("b", "b", "c")), ("show", "m"),
                      words=("a", "b", "c"))
        self.assertEqual([start(part, (word,)).shown for word in "abc"], [("b",), ("c",), ("b",)])

    def test_an_if_row_goes_into_its_first_rows_only_for_its_word(self):
        part = screen(either(("put", "m", "on"), slot="x", word="b"), ("show", "m"), words=("a", "b", "on"))
        self.assertEqual([start(part, (word,)).shown for word in ("a", "b", "on")], [("a",), ("on",), ("a",)])

    def test_if_rows_three_deep(self):
        part = screen(either(either(either(("show", "x"), slot="a"), slot="x", word="off", other=(("show", "a"),))))
        self.assertEqual(start(part, ("on",)).shown, ("off",))
        self.assertEqual(start(part, ("off",)).shown, ())


class FirstCall(unittest.TestCase):

    def test_the_entries_of_each_hook(self):
        part = screen(("cell", "a", "on"), ("box", "b", "on"), ("kept", "k", "x", SWAP, ("a", "x")),
                      effect(SAY_X, slots=("k",)), handler(("turn", "a", SWAP), slots=("x", "a")), handler())
        self.assertEqual(start(part).after, (
            ("off", "on", "on"),
            ((0,), (1,), (2,), (3,), (4,), (5,)),
            (("cell", "on"), ("box", "on"), ("kept", "on", ("on", "off")),
             ("effect", (3,), ("on",), (("off",), ()), ((), ())),
             ("handler", (4,), ("off", "on"), ((), (0,))),
             ("handler", (5,), None, ((), ()))), (), ()))

    def test_hooks_are_numbered_as_they_are_done(self):
        part = screen(either(("cell", "c", "on"), other=(("cell", "d", "on"), ("cell", "e", "off"))),
                      ("cell", "a", "off"))
        self.assertEqual(start(part, ("on",)).after[1:3], (((0, 0, 0), (1,)), (("cell", "on"), ("cell", "off"))))
        self.assertEqual(start(part, ("off",)).after[1:3],
                         (((0, 1, 0), (0, 1, 1), (1,)), (("cell", "on"), ("cell", "off"), ("cell", "off"))))

    def test_a_box_changes_no_slot(self):
        part = screen(("box", "a", "on"), SHOW_A)
        self.assertEqual(start(part).shown, ("off",))


class LaterCalls(unittest.TestCase):

    def test_a_cell_keeps_its_word(self):
        part = screen(SHOW_A, ("cell", "a", "off"), SHOW_A, handler(("turn", "a", SWAP)))
        first = start(part)
        second = go_on(part, first.after, GO)
        self.assertEqual([first.shown, second.shown], [("off", "off"), ("off", "on")])
        self.assertEqual(go_on(part, second.after, ON).after[2][0], ("cell", "on"))

    def test_a_box_keeps_its_word_and_calls_nothing(self):
        part = screen(("box", "b", "off"), handler(("write", "b", "x"), ("fetch", "b", "y"), ("say", "y")))
        wrote = played(part, GO, words=("on",), rule=CALL)
        self.assertEqual([wrote.calls, wrote.said, wrote.after[2][0]], [0, ("on",), ("box", "on")])
        self.assertEqual(go_on(part, wrote.after, OFF).after[2][0], ("box", "on"))

    def test_a_kept_word_stays_while_its_list_stays(self):
        part = screen(("kept", "k", "x", SWAP, ("y",)), ("show", "k"), inputs=("x", "y"))
        first = start(part, ("off", "off"))
        second = go_on(part, first.after, ON)
        third = go_on(part, second.after, ("hand", "y", "on"))
        self.assertEqual([first.shown, second.shown, third.shown], [("on",), ("on",), ("off",)])
        self.assertEqual([items(deed, "kept") for deed in (first, second, third)], [
            [("kept", (0,), "on", "on")], [("kept", (0,), "on", "off")], [("kept", (0,), "off", "off")]])
        self.assertEqual(second.after[2], (("kept", "on", ("off",)),))

    def test_a_kept_row_with_an_empty_list_is_worked_out_once(self):
        part = screen(("kept", "k", "x", SAME, ()), ("show", "k"))
        self.assertEqual([deed.shown for deed in (played(part), played(part, ON), played(part, ON, OFF))],
                         [("off",), ("off",), ("off",)])

    def test_a_kept_row_takes_words_as_they_stand_at_its_row(self):
        part = screen(("put", "k", "on"), ("kept", "k", "k", SWAP, ("k", "m")), ("put", "m", "on"), ("show", "k"))
        first = start(part)
        self.assertEqual(first.after[2], (("kept", "off", ("on", "off")),))
        # Its own slot and the row behind it have changed since, but not the words at the row.
        second = go_on(part, first.after, ON)
        self.assertEqual([second.after[2], second.shown], [first.after[2], ("off",)])

    def test_lists_of_words_that_differ_in_number_only(self):
        part = screen(either(("kept", "k", "x", SAME, ("y",)), other=(("kept", "k", "x", SAME, ("y", "z")),)))
        self.assertEqual(played(part).after[2], (("kept", "off", ("off", "off")),))
        self.assertEqual(played(part, ON).after[2], (("kept", "on", ("off",)),))
        self.assertEqual(played(part, ON, OFF).after[2], (("kept", "off", ("off", "off")),))

    def test_lists_of_words_that_differ_in_order_only(self):
        part = screen(("kept", "k", "x", SAME, ("x", "y")), inputs=("x", "y"))
        standing = (("on", "on", "off"), ((0,),), (("kept", "off", ("off", "on")),), (), ())
        deed = step(part, PASS, standing, ("hand", "y", "off"))
        self.assertEqual(deed.after[2], (("kept", "on", ("on", "off")),))


class Slips(unittest.TestCase):

    def test_a_hook_without_an_entry(self):
        part = screen(either(("cell", "a", "off")))
        self.assertEqual(slip_path(lambda: played(part, ON)), (0, 0, 0))
        part = screen(("box", "b", "off"), either(("cell", "a", "off"), ("cell", "c", "off")), SHOW_A)
        self.assertEqual(slip_path(lambda: played(part, ON)), (1, 0, 0))

    def test_hooks_that_are_not_done(self):
        part = screen(either(("cell", "a", "off")))
        self.assertEqual(slip_path(lambda: played(part, OFF, words=("on",))), ())
        part = screen(("cell", "c", "off"), either(("box", "b", "off"), effect()))
        self.assertEqual(slip_path(lambda: played(part, OFF, words=("on",))), ())

    def test_a_hook_of_another_kind_in_the_middle(self):
        hooks = [("cell", "c", "off"), ("box", "d", "off"), ("kept", "k", "x", SAME, ()), effect(), handler()]
        for first in hooks:
            for second in hooks:
                if first == second and first[0] in ("cell", "box"):
                    continue
                part = screen(("cell", "a", "off"), either(first, other=(second,)), ("box", "b", "off"))
                same = first == second
                self.assertEqual(slip_path(lambda: played(part, ON)), None if same else (1, 0, 0))
                self.assertEqual(slip_path(lambda: played(part, OFF, words=("on",))), None if same else (1, 1, 0))

    def test_the_hook_behind_one_more_hook_slips_where_its_kind_is_another(self):
        part = screen(either(("cell", "c", "off")), ("cell", "a", "off"), ("cell", "d", "off"), ("box", "b", "off"))
        self.assertEqual(slip_path(lambda: played(part, ON)), (2,))
        self.assertEqual(slip_path(lambda: played(part, OFF, words=("on",))), (3,))

    def test_the_first_call_never_slips(self):
        part = screen(either(("cell", "a", "off")))
        self.assertEqual([len(start(part, (word,)).after[1]) for word in ("off", "on")], [0, 1])

    def test_a_slip_in_a_start(self):
        part = screen(("cell", "a", "off"), effect(("turn", "a", SWAP)), either(("box", "b", "off"), slot="a"))
        self.assertEqual(slip_path(lambda: begin(part, PASS, ("off",))), (2, 0, 0))

    def test_nothing_has_changed_behind_a_slip(self):
        part = screen(("cell", "a", "off"), handler(("turn", "a", SWAP), ("say", "a")), either(("box", "b", "off")))
        first = start(part)
        self.assertEqual(slip_path(lambda: go_on(part, first.after, ON)), (2, 0, 0))
        second = go_on(part, first.after, GO)
        self.assertEqual([second.after[0][0], second.after[2][0]], ["off", ("cell", "on")])

    def test_a_standing_with_entries_that_no_call_fits(self):
        part = screen(("cell", "a", "off"), SHOW_A)
        self.assertEqual(slip_path(lambda: step(part, PASS, (("off", "off"), (), (), (), ()), ON)), (0,))


class OtherEntries(unittest.TestCase):
    """Point 18: a hook goes on with the entry of another row."""

    def test_a_cell_and_a_box(self):
        part = screen(either(("cell", "a", "on"), other=(("cell", "c", "off"),)), SHOW_A, ("show", "c"),
                      either(("box", "b", "on"), other=(("box", "d", "off"),)))
        second = played(part, ON)
        self.assertEqual([second.shown, second.after[1], second.after[2]],
                         [("off", "off"), ((0, 0, 0), (3, 0, 0)), (("cell", "off"), ("box", "off"))])

    def test_a_kept_row_with_equal_words_keeps_the_other_word(self):
        part = screen(either(("kept", "k", "x", SWAP, ("y",)), other=(("kept", "k", "x", SWAP, ("z",)),)),
                      ("show", "k"))
        second = played(part, ON)
        self.assertEqual([second.shown, second.trace[0]], [("on",), ("kept", (0, 0, 0), "on", "off")])

    def test_an_effect_with_equal_words_keeps_path_and_functions(self):
        part = screen(either(effect(("say", "y"), slots=("y",)), other=(effect(("say", "x"), slots=("z",)),)))
        first = start(part)
        second = go_on(part, first.after, ON)
        self.assertEqual(second.after[1:3], (((0, 0, 0),), (("effect", (0, 1, 0), ("off",), (("off",), ()),
                                                             ((), ())),)))
        self.assertEqual([runs(first), runs(second)], [[((0, 1, 0, 0), 0)], []])

    def test_an_effect_with_other_words_is_renewed_and_the_elder_one_cleaned(self):
        part = screen(either(effect(("say", "x"), slots=("x",)), other=(effect(clean=(("say", "y"),), slots=("x",)),)))
        second = played(part, ON)
        self.assertEqual(runs(second), [((0, 1, 0, 1), 0), ((0, 0, 0, 0), 0)])
        self.assertEqual(second.after[2][0][:3], ("effect", (0, 0, 0), ("on",)))

    def test_a_handler_with_the_same_event_keeps_the_function(self):
        part = screen(either(handler(("say", "x"), slots=()), other=(handler(("say", "y"), slots=()),)))
        second = played(part, ON)
        self.assertEqual(second.after[1:3], (((0, 0, 0),), (("handler", (0, 1, 0), (), (("off",), ())),)))
        third = go_on(part, second.after, GO)
        self.assertEqual([runs(third), third.said], [[((0, 1, 0, 0), 0)], ("off",)])

    def test_a_handler_with_another_event_is_due(self):
        part = screen(either(("handler", "go", (), (("say", "x"),)), other=(("handler", "stop", (), (("say", "y"),)),)),
                      events=("go", "stop"))
        second = played(part, ON)
        self.assertEqual(second.after[2], (("handler", (0, 0, 0), (), (("on",), ())),))
        self.assertEqual(go_on(part, second.after, GO).said, ("on",))
        self.assertEqual(runs(go_on(part, second.after, ("press", "stop"))), [])
        third = go_on(part, second.after, OFF)
        self.assertEqual(third.after[2], (("handler", (0, 1, 0), (), (("off",), ())),))


class EndOfCall(unittest.TestCase):

    def test_functions_hold_the_last_words_of_the_call(self):
        part = screen(effect(("say", "m"), slots=("m",)), handler(("say", "m")), ("put", "m", "on"))
        first = start(part)
        self.assertEqual([first.said, first.after[2][0][2], played(part, GO).said], [("on",), ("on",), ("on",)])

    def test_handlers_that_are_due(self):
        def words_of(slots):
            part = screen(handler(("say", "x"), slots=slots), inputs=("x", "y"))
            standing = start(part, ("off", "off")).after
            found = []
            for event in (ON, ("hand", "y", "on"), OFF):
                standing = go_on(part, standing, event).after
                found.append(standing[2][0][2:])
            return found
        self.assertEqual(words_of(None), [(None, ((word,), ())) for word in ("on", "on", "off")])
        self.assertEqual(words_of(()), [((), (("off",), ()))] * 3)
        self.assertEqual(words_of(("x",)), [((word,), ((word,), ())) for word in ("on", "on", "off")])
        self.assertEqual(words_of(("y",)), [(("off",), (("off",), ())), (("on",), (("on",), ())),
                                            (("on",), (("on",), ()))])

    def test_effects_that_are_due(self):
        def bodies(slots):
            part = screen(effect(("say", "x"), slots=slots), inputs=("x", "y"))
            standing = start(part, ("off", "off")).after
            found = []
            for event in (ON, ("hand", "y", "on"), OFF):
                deed = go_on(part, standing, event)
                standing = deed.after
                found.append((deed.said, standing[2][0][2]))
            return found
        self.assertEqual(bodies(None), [(("on",), None), (("on",), None), (("off",), None)])
        self.assertEqual(bodies(()), [((), ())] * 3)
        self.assertEqual(bodies(("x",)), [(("on",), ("on",)), ((), ("on",)), (("off",), ("off",))])
        self.assertEqual(bodies(("y",)), [((), ("off",)), (("on",), ("on",)), ((), ("on",))])

    def test_an_entry_with_the_list_none_is_due_for_a_row_with_a_list(self):
        part = screen(either(effect(("say", "x")), other=(effect(("say", "x"), slots=None),)),
                      either(handler(("say", "x"), slots=()), other=(handler(("say", "x")),)))
        second = played(part, ON)
        self.assertEqual([entry[1:3] for entry in second.after[2]], [((0, 0, 0), ()), ((1, 0, 0), ())])
        self.assertEqual(second.said, ("on",))

    def test_list_words_of_another_number_are_others(self):
        part = screen(either(effect(("say", "x"), slots=("y", "z")), other=(effect(("say", "x"), slots=("y",)),)),
                      either(handler(slots=("y", "z")), other=(handler(slots=("y",)),)))
        self.assertEqual([entry[2] for entry in played(part, ON).after[2]], [("off", "off"), ("off", "off")])
        part = screen(either(effect(slots=("y",)), other=(effect(slots=()),)))
        self.assertEqual(runs(played(part, ON)), [((0, 0, 0, 0), 0)])

    def test_the_last_words_are_compared_and_not_those_at_the_row(self):
        part = screen(("cell", "a", "off"), effect(("say", "m"), slots=("m",)), ("map", "m", "x", SWAP))
        self.assertEqual([played(part).said, played(part, ON).said, played(part, ON, ON).said], [("on",), ("off",), ()])

    def test_links_of_rows_that_were_not_done_are_none(self):
        part = screen(handler(("turn", "a", SWAP), ("turn", "c", SWAP), ("write", "b", "x")),
                      either(("cell", "a", "off"), other=(("cell", "c", "off"),)), ("box", "b", "off"))
        self.assertEqual(played(part).after[2][0][3], (("off",), (None, 1, 2)))
        self.assertEqual(played(part, ON).after[2][0][3], (("on",), (1, None, 2)))

    def test_links_lead_to_cells_behind_the_hook_too(self):
        part = screen(effect(("set", "a", "x")), ("cell", "a", "off"), SHOW_A)
        first = start(part, ("on",))
        self.assertEqual([first.shown, first.calls], [("on",), 2])


if __name__ == "__main__":
    unittest.main()
