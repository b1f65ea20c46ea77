"""Point 2: new lists, unchanged arguments, deep values, and the same answer to the same question."""

import copy
import unittest

from calledanew.alike import alike, classes, difference, parting
from calledanew.books import Book, is_closed
from calledanew.calling import begin, step
from calledanew.counting import costs, most_runs, never_done
from calledanew.desk import Desk
from calledanew.errors import CalledError, InvalidPart, InvalidPath, InvalidRule
from calledanew.heals import heals, is_change, rules_free, with_changes
from calledanew.lists import full_list, least_lists, list_at, missing_slots, surplus_slots, with_list
from calledanew.live import Live
from calledanew.parts import Part
from calledanew.rules import Rule, all_rules
from calledanew.standings import is_event, is_standing
from calledanew.texts import format_events, format_part, parse_events
from calledanew.verdicts import Verdict
from samples import (EVENTS, INPUTS, RICH_FUNCTIONS, RICH_HOOKS, RICH_ROWS, SWAP, WORDS, handler, nested, part_of,
                     rich_part, with_item)

ROWS = (("cell", "a", "off"), ("effect", ("a",), (("say", "a"), ("later", (("say", "a"),))), ()),
        ("handler", "go", None, (("turn", "a", SWAP), ("if", "a", "on", (("say", "a"),), ()))),
        ("if", "x", "on", (("show", "x"),), (("map", "m", "x", SWAP),)), ("kept", "k", "x", SWAP, ("x",)))


def answers(part):
    """All that can be asked about a part."""
    return [part.slots(), part.hooks(), part.functions(), part.row_paths(), part.is_steady(),
            [part.row_at(path) for path in part.row_paths()], [part.held(path) for path in part.functions()],
            [part.links(path) for path in part.functions()], part.words, part.inputs, part.events, part.rows]


class NewLists(unittest.TestCase):

    def test_a_changed_list_changes_no_later_answer(self):
        part = rich_part()
        for ask, expected in ((part.hooks, RICH_HOOKS), (part.functions, RICH_FUNCTIONS), (part.row_paths, RICH_ROWS)):
            first = ask()
            self.assertIsNot(ask(), first)
            first.reverse()
            first.append((99,))
            del first[0]
            self.assertEqual(ask(), expected)
            ask().clear()
            self.assertEqual(ask(), expected)
        self.assertEqual(answers(part), answers(rich_part()))
        self.assertEqual(part.row_at((0,)), ("cell", "a", "off"))

    def test_lists_of_rules(self):
        first = all_rules()
        first.clear()
        self.assertEqual(len(all_rules()), 4)


class Arguments(unittest.TestCase):

    def test_no_argument_is_modified(self):
        components = [["off", "on"], ["x"], ["go"], [["cell", "a", "off"], {"a": [1, (2, [3])]}]]
        before = copy.deepcopy(components)
        right = (WORDS, INPUTS, EVENTS, ROWS)
        for at, value in enumerate(components):
            with self.assertRaises(InvalidPart):
                Part(*with_item(right, at, value))
        self.assertEqual(components, before)

    def test_paths_and_rows_are_not_modified(self):
        part = rich_part()
        for value in ([0], [[0]], {"a": [0]}, [(0,), {"b": (1,)}]):
            before = copy.deepcopy(value)
            for ask in (part.row_at, part.held, part.links, lambda path: part.with_row(path, value)):
                with self.assertRaises(InvalidPath):
                    ask(value)
            with self.assertRaises(InvalidPart):
                part.with_row((0,), value)
            with self.assertRaises(InvalidRule):
                Rule(value, value)
            self.assertEqual(value, before)

    def test_values_for_starts_events_and_live_parts_are_not_modified(self):
        part, rule = Part(WORDS, INPUTS, EVENTS, ROWS), Rule("each", "call")
        standing = begin(part, rule, ("on",)).after
        live = Live(part, rule, ("on",))
        for value in ([0], [["on"]], {"a": ["on"]}, ["on", {"x": (["on"],)}], (["on"], {}), list(standing)):
            before = copy.deepcopy(value)
            self.assertEqual([is_standing(part, value), is_event(part, value)], [False, False])
            for ask in (lambda: begin(part, rule, value), lambda: step(part, rule, value, value), lambda: live(value),
                        lambda: step(part, rule, standing, value),
                        lambda: step(part, rule, standing, value, most=value),
                        lambda: Live(part, rule, value), lambda: Live.resumed(part, rule, value),
                        lambda: live.press(value),
                        lambda: live.hand(value, value), lambda: live.hand("x", value), lambda: live.set_bound(value)):
                with self.assertRaises(CalledError):
                    ask()
            self.assertEqual(value, before)
        self.assertEqual([len(live), live.standing()], [0, standing])

    def test_standings_words_and_events_are_not_modified(self):
        part = Part(WORDS, INPUTS, EVENTS, ROWS)
        for rule in all_rules():
            words, event = ("on",), ("press", "go")
            standing = begin(part, rule, words).after
            before = copy.deepcopy((words, event, standing, part.rows))
            step(part, rule, standing, event)
            Live.resumed(part, rule, standing)(event)
            self.assertEqual((words, event, standing, part.rows), before)


def positions(value, path=()):
    """All places inside nested tuples."""
    yield path
    if isinstance(value, tuple):
        for at, item in enumerate(value):
            yield from positions(item, path + (at,))


def placed(value, path, item):
    """The nested tuples with another item at one place."""
    if not path:
        return item
    return with_item(value, path[0], placed(value[path[0]], path[1:], item))


class BooksAndLists(unittest.TestCase):

    def test_no_argument_is_modified(self):
        part, rule = Part(WORDS, INPUTS, EVENTS, ROWS), Rule("each", "call")
        book = Book(part, rule)
        standing = book.standings()[0]
        events = [("tick",), ("press", "go")]
        pairs = [("slip", ()), ("old", (1,)), ("old", (1,))]
        kinds = ["old", "stale", "old"]
        rows = copy.deepcopy(part.rows)
        format_events(events)
        verdict = Verdict(pairs)
        verdict.only(kinds)
        verdict | Verdict([]) | book.verdict()
        least_lists(part, rule, (1,), kinds)
        closed = book.standings()
        is_closed(part, rule, closed)
        format_part(part)
        self.assertEqual([events, pairs, kinds, closed, part.rows],
                         [[("tick",), ("press", "go")], [("slip", ()), ("old", (1,)), ("old", (1,))],
                          ["old", "stale", "old"], book.standings(), rows])
        for value in ([0], [["on"]], {"a": ["on"]}, ["on", {"x": (["on"],)}], (["on"], {}), list(standing)):
            before = copy.deepcopy(value)
            is_closed(part, rule, value)
            self.assertFalse(value in book)
            for ask in (lambda: book.least_run(value), lambda: book.follow(value, value),
                        lambda: book.follow(standing, value), lambda: book.least_fault(value, value),
                        lambda: book.way(value, standing), lambda: Book(part, rule, most=value),
                        lambda: Book(part, rule, limit=value), lambda: list_at(part, value),
                        lambda: full_list(part, value), lambda: missing_slots(part, value),
                        lambda: surplus_slots(part, value), lambda: with_list(part, value, value),
                        lambda: with_list(part, (1,), value), lambda: least_lists(part, rule, value, kinds),
                        lambda: least_lists(part, rule, (1,), kinds, most=value),
                        lambda: is_closed(part, rule, [], most=value)):
                with self.assertRaises(CalledError):
                    ask()
            self.assertEqual(value, before)

    def test_new_lists(self):
        part, rule = Part(WORDS, INPUTS, EVENTS, ROWS), Rule("each", "call")
        book = Book(part, rule)
        for ask in (book.moves, book.starts, book.standings, book.faults, book.verdict().pairs, book.verdict().kinds,
                    lambda: least_lists(part, rule, (1,), ["old"]), lambda: parse_events("tick\n")):
            first = copy.deepcopy(ask())
            ask().append(None)
            ask().clear()
            self.assertEqual(ask(), first)


class WholeProgram(unittest.TestCase):
    """What is asked of books, comparisons, counts, changes and desks."""

    def test_no_argument_is_modified(self):
        part, rule = Part(WORDS, INPUTS, EVENTS, ROWS), Rule("each", "call")
        book = Book(part, rule)
        standing, rows = book.standings()[0], copy.deepcopy(part.rows)
        rules, kinds = all_rules(), ["old", "stale", "old"]
        candidates = [("none", (1,)), ("list", (2,), ("a",))]
        edits = [((0,), ("cell", "a", "on"))]
        desk = Desk(part, rules)
        classes(book)
        heals(part, rule, "stale", candidates)
        with_changes(part, candidates)
        rules_free(part, kinds)
        costs(part, (("on",), (("tick",),)))
        desk.attempt(edits)
        self.assertEqual([candidates, kinds, edits, part.rows, [at.same for at in rules]],
                         [[("none", (1,)), ("list", (2,), ("a",))], ["old", "stale", "old"],
                          [((0,), ("cell", "a", "on"))], rows, ["pass", "call", "pass", "call"]])
        for value in ([0], [["on"]], {"a": ["on"]}, ["on", {"x": (["on"],)}], (["on"], {}), list(standing),
                      *nested(20)):
            before = copy.deepcopy(value)
            self.assertFalse(is_change(part, value))
            for ask in (lambda: parting(book, standing, value), lambda: parting(book, value, standing),
                        lambda: most_runs(book, value), lambda: with_changes(part, [value]),
                        lambda: heals(part, rule, "old", [value]), lambda: heals(part, rule, "old", [], most=value),
                        lambda: heals(part, rule, "old", [], limit=value), lambda: rules_free(part, [], most=value),
                        lambda: rules_free(part, [], limit=value), lambda: costs(part, (value, ())),
                        lambda: costs(part, (("on",), (value,))), lambda: costs(part, (("on",), ()), most=value),
                        lambda: difference((part, rule), (part, rule), most=value),
                        lambda: alike((part, rule), (part, rule), limit=value), lambda: desk[value],
                        lambda: desk.attempt([(value, value)]), lambda: desk.attempt([((0,), value)]),
                        lambda: Desk(part, rules, most=value), lambda: Desk(part, rules, limit=value)):
                with self.assertRaises(CalledError):
                    ask()
            for path, row in ((value, value), ((0,), value)):
                with self.assertRaises(CalledError):
                    desk[path] = row
            self.assertEqual(value, before)
        self.assertEqual([len(desk), desk.current], [0, part])

    def test_new_lists(self):
        part, rule = Part(WORDS, INPUTS, EVENTS, ROWS), Rule("each", "call")
        book, desk = Book(part, rule), Desk(part, all_rules())
        run = (("on",), (("tick",),))
        for ask in (lambda: classes(book), lambda: never_done(book), lambda: costs(part, run), desk.verdicts,
                    lambda: heals(part, rule, "old", []), lambda: rules_free(part, []), lambda: desk.attempt([])):
            first = list(ask())
            ask().append(None)
            ask().clear()
            self.assertEqual(ask(), first)


class AnyValues(unittest.TestCase):

    def test_deep_values_in_each_component(self):
        right = (WORDS, INPUTS, EVENTS, ROWS)
        for at, name in enumerate(("words", "inputs", "events")):
            for value in nested(20):
                with self.assertRaises(InvalidPart) as caught:
                    Part(*with_item(right, at, value))
                self.assertEqual((caught.exception.part, caught.exception.path), (name, ()))
        for value in nested(20):
            with self.assertRaises(InvalidPart) as caught:
                Part(*right[:3], value)
            expected = (0,) if isinstance(value, tuple) else ()
            self.assertEqual((caught.exception.part, caught.exception.path), ("rows", expected))

    def test_every_place_of_the_components_with_every_sort_of_value(self):
        right = (WORDS, INPUTS, EVENTS, ROWS)
        values = [None, True, False, 0, 1, -1, 10 ** 40, "", "a", "A", "x" * 9, (), [], {}, ("a",), ["a"], {"a": ()},
                  {(): {}}] + list(nested(12))
        for path in positions(right):
            for value in values if path else []:
                components = placed(right, path, value)
                with self.subTest(path=path, value=value):
                    try:
                        part = Part(*components)
                    except InvalidPart as error:
                        self.assertIn(error.part, ("words", "inputs", "events", "rows", "names", "many"))
                        self.assertIs(type(error.path), tuple)
                    else:
                        self.assertIs(part.rows, components[3])

    def test_if_rows_nested_far_too_deep(self):
        row = ("show", "x")
        for depth in range(20):
            row = ("if", "x", "on", (row,), ())
        with self.assertRaises(InvalidPart) as caught:
            Part(WORDS, INPUTS, EVENTS, (row,))
        self.assertEqual((caught.exception.part, caught.exception.path), ("rows", (0, 0, 0, 0, 0, 0, 0)))
        row = ("say", "x")
        for depth in range(20):
            row = ("later", (row,))
        with self.assertRaises(InvalidPart) as caught:
            part_of(handler(row))
        self.assertEqual((caught.exception.part, caught.exception.path), ("rows", (2, 0, 0, 0, 0)))

    def test_many_rows_on_end(self):
        with self.assertRaises(InvalidPart) as caught:
            Part(WORDS, INPUTS, EVENTS, (("show", "x"),) * 5000)
        self.assertEqual((caught.exception.part, caught.exception.path), ("many", ()))
        with self.assertRaises(InvalidPath):
            rich_part().row_at((0,) * 5000)
        with self.assertRaises(InvalidPath):
            rich_part().with_row((0,) * 5000, ("show", "x"))


class SameAnswers(unittest.TestCase):

    def test_between_questions_to_another_part(self):
        first = rich_part()
        second = Part(WORDS, INPUTS, EVENTS, ROWS)
        first_answers, second_answers = answers(first), answers(second)
        self.assertNotEqual(first_answers, second_answers)
        for count in range(3):
            self.assertEqual(answers(first), first_answers)
            self.assertEqual(answers(second), second_answers)
            self.assertEqual(answers(rich_part()), first_answers)

    def test_a_refused_call_changes_nothing(self):
        part = rich_part()
        before = answers(part)
        for wrong in (lambda: part.row_at((99,)), lambda: part.held((0,)), lambda: part.links(None),
                      lambda: part.with_row((99,), None), lambda: part.with_row((0,), None),
                      lambda: part.with_row((0,), ("cell", "x", "off"))):
            with self.assertRaises(CalledError):
                wrong()
            self.assertEqual(answers(part), before)


if __name__ == "__main__":
    unittest.main()
