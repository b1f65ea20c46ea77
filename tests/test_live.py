"""Point 32: live parts, their histories, undo, forks and the bound."""

import inspect
import unittest

from calledanew.calling import Step, begin, step
from calledanew.errors import (InvalidBound, InvalidEvent, InvalidStanding, InvalidStart, NothingToUndo, Slipped,
                               TooManyCalls, TooManyLater, UnknownEvent, UnknownInput, UnknownWord)
from calledanew.live import Live
from calledanew.rules import Rule
from calledanew.standings import all_events
from deeds import BAD_BOUNDS, EACH, GO, OFF, ON, PASS, RULES, SWAP, TICK, go_on, outcome, screen, start, told
from random_parts import history_of, parts_of
from samples import effect, either, handler, later, nested

TURN_A = ("turn", "a", SWAP)
PART = screen(("cell", "a", "off"), effect(("say", "a"), ("say", "x"), slots=("a", "x")),
              handler(TURN_A, later(("say", "x"))), ("handler", "stop", None, ()), ("show", "a"), ("show", "x"),
              events=("go", "stop"))
BACK = screen(("cell", "a", "off"), handler(TURN_A), effect(either(TURN_A, slot="a"), slots=("a",)), ("show", "a"))
SLIPS = screen(("cell", "a", "off"), either(("box", "b", "off")), handler(("say", "x"), TURN_A), ("show", "a"))


def state(live):
    """All that can be asked about a live object."""
    return (live.standing(), live.screen(), live.last_trace(), live.said_words(), live.events_done(), len(live),
            live.bound, [told(deed) for deed in live.steps()])


def history(live):
    """The same without the bound."""
    told_of = state(live)
    return told_of[:6] + told_of[7:]


class Starts(unittest.TestCase):

    def test_it_begins_with_a_start(self):
        live = Live(PART, PASS, ("on",))
        first = begin(PART, PASS, ("on",))
        self.assertEqual(state(live), (first.after, ("off", "on"), first.trace, ["off", "on"], [], 0, 50,
                                       [told(first)]))
        self.assertIs(live.part, PART)
        self.assertEqual(live.rule, PASS)

    def test_part_and_rule_are_attributes_of_the_object(self):
        rule = Rule("each", "call")
        for live in (Live(PART, rule, ("on",)), Live.resumed(PART, rule, start(PART).after),
                     Live(PART, rule, ("on",)).fork()):
            self.assertIs(live.part, PART)
            self.assertIs(live.rule, rule)
            self.assertTrue({"part", "rule"} <= set(vars(live)))

    def test_it_raises_what_begin_raises(self):
        for most in BAD_BOUNDS:
            with self.assertRaises(InvalidBound) as caught:
                Live(PART, PASS, None, most=most)
            self.assertIs(caught.exception.value, most)
        for words in [None, (), "off", ["off"], ("maybe",), ("off", "off")] + list(nested(20)):
            with self.assertRaises(InvalidStart) as caught:
                Live(PART, PASS, words, most=1)
            self.assertIs(caught.exception.words, words)
        endless = screen(("cell", "a", "off"), effect(TURN_A, slots=None))
        with self.assertRaises(TooManyCalls) as caught:
            Live(endless, PASS, ("off",), most=7)
        self.assertEqual(caught.exception.most, 7)
        with self.assertRaises(TooManyLater):
            Live(screen(effect(*[later()] * 4)), PASS, ("off",))
        with self.assertRaises(Slipped):
            Live(screen(("cell", "a", "off"), effect(TURN_A), either(effect(), slot="a")), PASS, ("off",))


class Resumed(unittest.TestCase):

    def test_it_goes_on_from_the_standing(self):
        standing = go_on(PART, start(PART).after, GO, ON).after
        live = Live.resumed(PART, PASS, standing)
        self.assertIsInstance(live, Live)
        self.assertEqual(state(live), (standing, ("on", "on"), (), [], [], 0, 50, []))
        self.assertEqual(live.tick(), ["off"])
        self.assertEqual([told(deed) for deed in live.steps()], [told(step(PART, PASS, standing, TICK))])
        self.assertEqual([live.said_words(), len(live)], [["off"], 1])

    def test_a_standing_that_no_history_reaches(self):
        standing = ((("on",) * 2), (), (), (), ("off",) * 3)
        live = Live.resumed(PART, PASS, standing)
        self.assertEqual([live.screen(), live.standing()], [("off",) * 3, standing])
        with self.assertRaises(Slipped):
            live.hand("x", "off")
        self.assertEqual(state(live), (standing, ("off",) * 3, (), [], [], 0, 50, []))

    def test_its_errors(self):
        standing = start(PART).after
        for most in BAD_BOUNDS:
            with self.assertRaises(InvalidBound) as caught:
                Live.resumed(PART, PASS, None, most=most)
            self.assertIs(caught.exception.value, most)
        for value in [None, (), [], list(standing), standing[1:], start(BACK).after] + list(nested(20)):
            with self.assertRaises(InvalidStanding):
                Live.resumed(PART, PASS, value, most=1)
        self.assertEqual(Live.resumed(PART, PASS, standing, most=3).bound, 3)

    def test_after_all_events_are_taken_back(self):
        standing = start(PART).after
        live = Live.resumed(PART, PASS, standing)
        live.press("go")
        live.tick()
        self.assertNotEqual(live.last_trace(), ())
        self.assertEqual([live.undo(), live.undo()], [TICK, GO])
        self.assertEqual(state(live), (standing, ("off", "off"), (), [], [], 0, 50, []))
        with self.assertRaises(NothingToUndo):
            live.undo()


class Deeds(unittest.TestCase):

    def test_the_ways_to_do_an_event(self):
        first, second, third = [Live(PART, PASS, ("off",)) for count in range(3)]
        self.assertEqual([first.press("go"), first.hand("x", "on"), first.tick(), first.hand("x", "off")],
                         [["on", "off"], ["on", "on"], ["off"], ["on", "off"]])
        second["x"] = "off"
        self.assertEqual([second(GO), second(ON), second(TICK), second(OFF)],
                         [["on", "off"], ["on", "on"], ["off"], ["on", "off"]])
        second.undo()
        third(GO)
        third["x"] = "on"
        third(("tick",))
        third["x"] = "off"
        self.assertEqual(history(first), history(third))
        self.assertEqual(first.events_done(), [GO, ON, TICK, OFF])

    def test_each_deed_is_a_step(self):
        for number, part in enumerate(parts_of(3, 60)):
            for rule in RULES:
                for deeds in [history_of(part, rule, number)]:
                    if not deeds:
                        continue
                    live = Live(part, rule, deeds[0].after[0][:len(part.inputs)])
                    for deed in deeds[1:]:
                        self.assertEqual(live(deed.event), list(deed.said))
                    self.assertEqual([told(deed) for deed in live.steps()], [told(deed) for deed in deeds])
                    self.assertEqual(live.said_words(), [word for deed in deeds for word in deed.said])
                    self.assertEqual([live.standing(), live.screen(), live.last_trace()],
                                     [deeds[-1].after, deeds[-1].shown, deeds[-1].trace])
                    self.assertEqual([live.events_done(), len(live)],
                                     [[deed.event for deed in deeds[1:]], len(deeds) - 1])

    def test_the_last_trace(self):
        for live in (Live(PART, PASS, ("off",)), Live.resumed(PART, PASS, start(PART).after)):
            self.assertEqual(live(ON), ["off", "on"])
            self.assertEqual(live.last_trace(), go_on(PART, start(PART).after, ON).trace)
            live(TICK)
            self.assertEqual(live.last_trace(), ())

    def test_an_event_that_changes_nothing_is_in_the_history(self):
        live = Live(PART, PASS, ("off",))
        before = live.standing()
        self.assertEqual([live.tick(), live.hand("x", "off"), live.press("stop")], [[], [], []])
        self.assertEqual([live.events_done(), len(live), live.standing(), live.last_trace()],
                         [[TICK, OFF, ("press", "stop")], 3, before, (("run", (3, 0), 3, (), ()),)])
        self.assertEqual([deed.event for deed in live.steps()], [None, TICK, OFF, ("press", "stop")])
        self.assertEqual([live.undo(), live.undo(), live.undo(), live.standing()],
                         [("press", "stop"), OFF, TICK, before])

    def test_names_that_are_none(self):
        live = Live(PART, PASS, ("off",))
        before = state(live)
        values = [None, True, 0, 1, "", "maybe", (), [], {}, ("go",), ["x"], {"x": 1}] + list(nested(20))
        for value in values + ["x", "off", "tick"]:
            with self.assertRaises(UnknownEvent) as caught:
                live.press(value)
            self.assertIs(caught.exception.event, value)
        for value in values + ["y", "go", "off"]:
            for word in ("on", "maybe", value):
                with self.assertRaises(UnknownInput) as caught:
                    live.hand(value, word)
                self.assertIs(caught.exception.name, value)
                with self.assertRaises(UnknownInput):
                    live[value] = word
        for value in values + ["x", "go"]:
            with self.assertRaises(UnknownWord) as caught:
                live.hand("x", value)
            self.assertIs(caught.exception.word, value)
            with self.assertRaises(UnknownWord):
                live["x"] = value
        for value in values + ["go", "tick", ("press", "up"), ("hand", "y", "on"), ("hand", "x", "maybe"), ["tick"],
                               ("tick", 1)]:
            with self.assertRaises(InvalidEvent) as caught:
                live(value)
            self.assertIs(caught.exception.event, value)
        self.assertEqual(state(live), before)

    def test_wrong_names_come_ahead_of_refused_events(self):
        live = Live(SLIPS, PASS, ("off",), most=1)
        with self.assertRaises(UnknownWord):
            live.hand("x", "maybe")
        with self.assertRaises(Slipped):
            live.hand("x", "on")

    def test_refused_events_change_nothing(self):
        live = Live(SLIPS, PASS, ("off",))
        live.press("go")
        before = state(live)
        for deed in (lambda: live.hand("x", "on"), lambda: live(ON), lambda: live.__setitem__("x", "on")):
            with self.assertRaises(Slipped) as caught:
                deed()
            self.assertEqual(caught.exception.path, (1, 0, 0))
            self.assertEqual(state(live), before)
        self.assertEqual([live.press("go"), live.screen(), len(live)], [["off"], ("off",), 2])
        live = Live(PART, PASS, ("off",))
        for count in range(3):
            live.press("go")
        before = state(live)
        for deed in (lambda: live.press("go"), lambda: live(GO)):
            with self.assertRaises(TooManyLater) as caught:
                deed()
            self.assertEqual(caught.exception.path, (2, 0, 1))
            self.assertEqual(state(live), before)
        live = Live(BACK, PASS, ("off",), most=1)
        before = state(live)
        for deed in (lambda: live.press("go"), lambda: live(GO)):
            with self.assertRaises(TooManyCalls) as caught:
                deed()
            self.assertEqual(caught.exception.most, 1)
            self.assertEqual(state(live), before)

    def test_a_hand_by_item_has_no_answer_to_take(self):
        live = Live(PART, PASS, ("off",))
        self.assertIsNone(live.__setitem__("x", "on"))
        self.assertEqual(live.screen(), ("off", "on"))

    def test_new_lists_each_time(self):
        live = Live(PART, PASS, ("off",))
        live.press("go").clear()
        for ask in (live.said_words, live.events_done):
            expected = ask()
            first = ask()
            self.assertIs(type(first), list)
            first.append("more")
            self.assertEqual(ask(), expected)
        before = state(live)
        live.said_words().clear()
        live.events_done().clear()
        list(live.steps()).clear()
        self.assertEqual(state(live), before)
        for value in (live.screen(), live.standing(), live.last_trace()):
            self.assertIs(type(value), tuple)


class Undo(unittest.TestCase):

    def test_step_by_step_to_the_start_and_on_from_there(self):
        for rule in RULES:
            live = Live(PART, rule, ("off",))
            states = []
            events = [GO, ON, TICK, TICK, GO, OFF, ("press", "stop"), TICK]
            for event in events:
                states.append(state(live))
                live(event)
            for event in reversed(events):
                self.assertEqual(live.undo(), event)
                self.assertEqual(state(live), states.pop())
            self.assertEqual(live.last_trace(), begin(PART, rule, ("off",)).trace)
            with self.assertRaises(NothingToUndo):
                live.undo()
            self.assertEqual(state(live), state(Live(PART, rule, ("off",))))
            self.assertEqual([live.press("go"), live.events_done()], [["on", "off"], [GO]])

    def test_an_undone_write_and_an_undone_later_row(self):
        part = screen(("box", "b", "off"), handler(("fetch", "b", "y"), ("say", "y"), ("write", "b", "x"), later()))
        live = Live(part, PASS, ("on",))
        self.assertEqual([live.press("go"), live.undo(), live.press("go"), live.press("go")],
                         [["off"], GO, ["off"], ["on"]])
        self.assertEqual(len(live.standing()[3]), 2)

    def test_an_event_refused_is_no_event_to_undo(self):
        live = Live(SLIPS, PASS, ("off",))
        with self.assertRaises(Slipped):
            live(ON)
        with self.assertRaises(NothingToUndo):
            live.undo()


class Forks(unittest.TestCase):

    def test_a_fork_has_the_same_history_and_bound(self):
        live = Live(PART, EACH, ("on",), most=9)
        live(GO)
        live(TICK)
        other = live.fork()
        self.assertIsInstance(other, Live)
        self.assertIsNot(other, live)
        self.assertEqual(state(other), state(live))
        self.assertEqual(other.bound, 9)

    def test_what_one_does_does_not_change_the_other(self):
        for live in (Live(PART, PASS, ("off",)), Live.resumed(PART, PASS, start(PART).after)):
            live(GO)
            before = state(live)
            other = live.fork()
            other(GO)
            other["x"] = "on"
            other.set_bound(3)
            self.assertEqual(state(live), before)
            there = state(other)
            live.undo()
            live(ON)
            live(TICK)
            self.assertEqual(state(other), there)
            self.assertEqual([other.undo(), other.undo(), other.undo()], [ON, GO, GO])
            self.assertEqual(len(other), 0)
            self.assertEqual(live.events_done(), [ON, TICK])

    def test_forks_of_forks(self):
        live = Live(PART, PASS, ("off",))
        live(GO)
        child = live.fork()
        child(ON)
        grandchild = child.fork()
        child.undo()
        grandchild(TICK)
        self.assertEqual([one.events_done() for one in (live, child, grandchild)], [[GO], [GO], [GO, ON, TICK]])
        self.assertEqual([len(one.fork()) for one in (live, child, grandchild)], [1, 1, 3])

    def test_forks_of_resumed_parts(self):
        standing = go_on(PART, start(PART).after, GO).after
        live = Live.resumed(PART, PASS, standing, most=4)
        other = live.fork().fork()
        self.assertEqual(state(other), (standing, ("on", "off"), (), [], [], 0, 4, []))
        other.tick()
        self.assertEqual([len(live), len(other), list(live.steps())], [0, 1, []])
        with self.assertRaises(NothingToUndo):
            live.undo()

    def test_a_fork_is_not_started_anew(self):
        # Under the new bound neither the start nor the event would go through.
        live = Live(BACK, PASS, ("off",))
        live(GO)
        live.set_bound(1)
        self.assertEqual(state(live.fork()), state(live))

    def test_two_live_objects_of_one_part(self):
        first, second = Live(PART, PASS, ("off",)), Live(PART, EACH, ("on",))
        first(GO)
        second(OFF)
        second(GO)
        first(ON)
        self.assertEqual([first.events_done(), second.events_done()], [[GO, ON], [OFF, GO]])
        self.assertEqual([first.screen(), second.screen()], [("on", "on"), ("on", "off")])
        self.assertEqual([first.said_words(), second.said_words()],
                         [["off", "off", "on", "off", "on", "on"], ["off", "on", "off", "off", "on", "off"]])


class Bound(unittest.TestCase):

    def test_it_can_be_read_and_set(self):
        live = Live(BACK, PASS, ("off",), most=1)
        self.assertEqual(live.bound, 1)
        self.assertIsInstance(inspect.getattr_static(Live, "bound"), property)
        before = history(live)
        self.assertIsNone(live.set_bound(2))
        self.assertEqual([live.bound, history(live)], [2, before])
        self.assertEqual([live.press("go"), len(live)], [[], 1])
        for value in (1, 500):
            live.set_bound(value)
            self.assertEqual(live.bound, value)

    def test_undo_does_not_change_it(self):
        live = Live(BACK, PASS, ("off",))
        live(GO)
        live.set_bound(1)
        live.undo()
        self.assertEqual(live.bound, 1)
        with self.assertRaises(TooManyCalls) as caught:
            live(GO)
        self.assertEqual(caught.exception.most, 1)

    def test_its_errors_change_nothing(self):
        live = Live(BACK, PASS, ("off",), most=7)
        for value in BAD_BOUNDS:
            with self.assertRaises(InvalidBound) as caught:
                live.set_bound(value)
            self.assertIs(caught.exception.value, value)
            self.assertEqual(live.bound, 7)
        self.assertEqual(state(live), state(Live(BACK, PASS, ("off",), most=7)))


class Steps(unittest.TestCase):

    def test_a_generator(self):
        live = Live(PART, PASS, ("off",))
        live(GO)
        self.assertTrue(inspect.isgenerator(live.steps()))
        self.assertTrue(inspect.isgeneratorfunction(Live.steps))
        one = live.steps()
        self.assertIsInstance(next(one), Step)
        self.assertEqual(next(one).event, GO)
        self.assertEqual(list(one), [])
        self.assertEqual([deed.event for deed in live.steps()], [None, GO])

    def test_each_step_goes_on_from_the_one_before(self):
        live = Live(PART, PASS, ("off",))
        for event in all_events(PART):
            live(event)
        deeds = list(live.steps())
        self.assertIsNone(deeds[0].before)
        for first, second in zip(deeds, deeds[1:]):
            self.assertEqual(first.after, second.before)

    def test_len_is_zero_without_events(self):
        self.assertEqual([len(Live(PART, PASS, ("off",))), len(Live.resumed(PART, PASS, start(PART).after))], [0, 0])
        self.assertEqual(outcome(lambda: start(PART))[6], 1)


if __name__ == "__main__":
    unittest.main()
