"""The interface: names, arguments, and where each thing is defined."""

import inspect
import unittest

from calledanew import (alike, books, calling, counting, desk, errors, heals, judge, lists, live, parts, rules,
                        standings,
                        texts, verdicts)

PART_METHODS = {"__init__": ["self", "words", "inputs", "events", "rows"], "__eq__": None, "slots": ["self"],
                "hooks": ["self"], "functions": ["self"], "held": ["self", "path"], "links": ["self", "path"],
                "is_steady": ["self"], "row_paths": ["self"], "row_at": ["self", "path"],
                "with_row": ["self", "path", "row"]}
LIVE_METHODS = {"__init__": ["self", "part", "rule", "words", "most"], "set_bound": ["self", "value"],
                "press": ["self", "event"], "tick": ["self"], "hand": ["self", "name", "word"], "__setitem__": None,
                "__call__": ["self", "event"], "screen": ["self"], "standing": ["self"], "last_trace": ["self"],
                "said_words": ["self"], "events_done": ["self"], "__len__": ["self"], "steps": ["self"],
                "fork": ["self"], "undo": ["self"]}
BOOK_METHODS = {"__init__": ["self", "part", "rule", "most", "limit"], "__len__": ["self"], "__contains__": None,
                "moves": ["self"], "starts": ["self"], "standings": ["self"], "least_run": ["self", "standing"],
                "follow": ["self", "standing", "event"], "faults": ["self"], "least_fault": ["self", "kind", "path"],
                "is_free": ["self", "kind"], "verdict": ["self"], "way": ["self", "first", "second"]}
VERDICT_METHODS = {"__init__": ["self", "pairs"], "pairs": ["self"], "kinds": ["self"], "only": ["self", "kinds"],
                   "__or__": None, "__and__": None, "__sub__": None, "__eq__": None, "__len__": ["self"],
                   "__bool__": ["self"], "__contains__": None}
DESK_METHODS = {"__init__": ["self", "part", "rules", "most", "limit"], "put_part": ["self", "part"], "__ior__": None,
                "__getitem__": None, "__setitem__": None, "__len__": ["self"], "undo": ["self"], "redo": ["self"],
                "verdicts": ["self"], "attempt": ["self", "edits"]}
FUNCTIONS = {(rules, "all_rules"): [], (standings, "is_standing"): ["part", "value"],
             (standings, "is_event"): ["part", "value"], (standings, "all_events"): ["part"],
             (calling, "begin"): ["part", "rule", "words", "most"],
             (calling, "step"): ["part", "rule", "standing", "event", "most"],
             (judge, "faults"): ["part", "before", "trace", "after"],
             (texts, "format_part"): ["part"], (texts, "parse_part"): ["text"], (texts, "format_events"): ["events"],
             (texts, "parse_events"): ["text"], (books, "is_closed"): ["part", "rule", "value", "most"],
             (lists, "list_at"): ["part", "path"], (lists, "full_list"): ["part", "path"],
             (lists, "missing_slots"): ["part", "path"], (lists, "surplus_slots"): ["part", "path"],
             (lists, "is_complete"): ["part"], (lists, "with_list"): ["part", "path", "slots"],
             (lists, "least_lists"): ["part", "rule", "path", "kinds", "most", "limit"],
             (alike, "difference"): ["first", "second", "says_only", "most", "limit"],
             (alike, "alike"): ["first", "second", "says_only", "most", "limit"],
             (alike, "parting"): ["book", "first", "second"], (alike, "classes"): ["book"],
             (counting, "most_calls"): ["book"], (counting, "most_runs"): ["book", "path"],
             (counting, "never_done"): ["book"], (counting, "costs"): ["part", "run", "most"],
             (heals, "is_change"): ["part", "value"], (heals, "with_changes"): ["part", "changes"],
             (heals, "heals"): ["part", "rule", "kind", "candidates", "most", "limit"],
             (heals, "rules_free"): ["part", "kinds", "most", "limit"]}
# What is passed by keyword, and what it is if it is left out.
BOUNDS = {calling.begin: {"most": 50}, calling.step: {"most": 50}, live.Live: {"most": 50},
          live.Live.resumed: {"most": 50}, books.Book: {"most": 50, "limit": 2000}, books.is_closed: {"most": 50},
          lists.least_lists: {"most": 50, "limit": 2000},
          alike.difference: {"says_only": False, "most": 50, "limit": 5000},
          alike.alike: {"says_only": False, "most": 50, "limit": 5000}, counting.costs: {"most": 50},
          heals.heals: {"most": 50, "limit": 2000}, heals.rules_free: {"most": 50, "limit": 2000},
          desk.Desk: {"most": 50, "limit": 2000}}
ERRORS = {"InvalidPart": ["part", "path"], "InvalidRule": ["part"], "InvalidStart": ["words"],
          "InvalidEvent": ["event"],
          "InvalidPath": ["path"], "InvalidBound": ["value"], "InvalidText": ["line"], "UnknownInput": ["name"],
          "UnknownWord": ["word"], "UnknownEvent": ["event"], "Slipped": ["path"], "TooManyLater": ["path"],
          "TooManyCalls": ["most"], "LimitExceeded": ["limit"], "NoFault": ["kind", "path"], "InvalidKind": ["kind"],
          "NotComparable": ["part"], "InvalidChange": ["index"], "NoFunction": ["path"], "InvalidStanding": [],
          "NothingToUndo": [], "NoStanding": [], "NothingToRedo": []}


def arguments(value):
    return list(inspect.signature(value).parameters)


class Interface(unittest.TestCase):

    def methods_of(self, found, methods):
        for name, expected in methods.items():
            with self.subTest(name):
                self.assertIn(name, vars(found))
                if expected:
                    self.assertEqual(arguments(vars(found)[name]), expected)

    def test_bounds_are_passed_by_keyword(self):
        for value, bounds in BOUNDS.items():
            parameters = inspect.signature(value).parameters
            by_keyword = {name: parameters[name].default for name in parameters
                          if parameters[name].kind == inspect.Parameter.KEYWORD_ONLY}
            self.assertEqual(by_keyword, bounds)

    def test_part(self):
        self.assertEqual(parts.Part.__module__, "calledanew.parts")
        self.methods_of(parts.Part, PART_METHODS)

    def test_rule(self):
        self.assertEqual(rules.Rule.__module__, "calledanew.rules")
        self.assertIn("__eq__", vars(rules.Rule))
        self.assertEqual(arguments(rules.Rule.__init__), ["self", "batch", "same"])

    def test_functions(self):
        for (module, name), expected in FUNCTIONS.items():
            found = getattr(module, name)
            self.assertEqual([found.__module__, arguments(found)], [module.__name__, expected])

    def test_step(self):
        self.assertEqual(calling.Step.__module__, "calledanew.calling")
        part = parts.Part(("off", "on"), (), (), ())
        first = calling.begin(part, rules.Rule("each", "call"), ())
        self.assertEqual(set(vars(first)), {"event", "before", "after", "shown", "said", "trace", "calls", "done"})
        self.assertEqual([type(first.calls)] + [type(value) for value in (first.shown, first.said, first.trace,
                                                                          first.done)],
                         [int, tuple, tuple, tuple, tuple])

    def test_live(self):
        self.assertEqual(live.Live.__module__, "calledanew.live")
        self.methods_of(live.Live, LIVE_METHODS)
        self.assertIsInstance(vars(live.Live)["resumed"], classmethod)
        self.assertIsInstance(vars(live.Live)["bound"], property)
        self.assertEqual(arguments(live.Live.resumed), ["part", "rule", "standing", "most"])

    def test_book(self):
        self.assertEqual(books.Book.__module__, "calledanew.books")
        self.methods_of(books.Book, BOOK_METHODS)

    def test_verdict(self):
        self.assertEqual(verdicts.Verdict.__module__, "calledanew.verdicts")
        self.methods_of(verdicts.Verdict, VERDICT_METHODS)

    def test_desk(self):
        self.assertEqual(desk.Desk.__module__, "calledanew.desk")
        self.methods_of(desk.Desk, DESK_METHODS)

    def test_attributes_are_set_when_the_object_is_created(self):
        part = parts.Part(("off", "on"), (), (), ())
        for name in ("words", "inputs", "events", "rows"):
            self.assertIn(name, vars(part))
        self.assertEqual(vars(rules.Rule("each", "call")), {"batch": "each", "same": "call"})
        rule = rules.Rule("each", "call")
        book = books.Book(part, rule, most=7, limit=8)
        self.assertEqual([vars(book)[name] for name in ("part", "rule", "most", "limit")], [part, rule, 7, 8])
        made = desk.Desk(part, [rule])
        self.assertEqual([vars(made)[name] for name in ("current", "watched")], [part, ()])

    def test_errors_are_directly_under_the_error_of_the_package(self):
        self.assertEqual(errors.CalledError.__bases__, (ValueError,))
        for name, expected in ERRORS.items():
            found = getattr(errors, name)
            self.assertEqual(found.__bases__, (errors.CalledError,))
            values = [object() for value in expected]
            error = found(*values)
            self.assertEqual([getattr(error, name) for name in expected], values)
            self.assertEqual(len(vars(error)), len(expected))


if __name__ == "__main__":
    unittest.main()
