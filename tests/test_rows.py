"""Points 5, 6, 7 and point 9, 2: the forms of rows and where they may stand."""

import itertools
import unittest

from calledanew.parts import Part
from samples import (CALL_SAMPLES, EVENTS, FUNCTION_SAMPLES, INPUTS, NO_ROWS, WORDS, effect, either, handler, later,
                     nested, part_of, refused, refused_rows, with_item, wrong_forms)

SAY = ("say", "x")
SHOW = ("show", "x")
ALL_SAMPLES = list(CALL_SAMPLES.values()) + list(FUNCTION_SAMPLES.values())
ONLY_CALL = [CALL_SAMPLES[kind] for kind in ("cell", "box", "kept", "effect", "handler", "show")]
ONLY_FUNCTION = [FUNCTION_SAMPLES[kind] for kind in ("say", "set", "turn", "write", "fetch", "later")]

# Where a row may stand: what it is put into, and its path there.
CALL_PLACES = {
    "top": (lambda row: [row], (2,)),
    "behind": (lambda row: [SHOW, row, SHOW], (3,)),
    "first": (lambda row: [either(SHOW, row)], (2, 0, 1)),
    "second": (lambda row: [either(SHOW, other=(row,))], (2, 1, 0)),
    "deep": (lambda row: [either(other=(either(row),))], (2, 1, 0, 0, 0)),
    "deepest": (lambda row: [either(either(SHOW, either(other=(SHOW, row))))], (2, 0, 0, 0, 1, 1, 1)),
}
BODY_PLACES = {
    "effect body": (lambda row: [effect(SAY, row)], (2, 0, 1)),
    "handler body": (lambda row: [handler(row, SAY)], (2, 0, 0)),
    "body inside ifs": (lambda row: [either(either(SHOW, handler(row)))], (2, 0, 0, 0, 1, 0, 0)),
}
INNER_PLACES = {
    "clean": (lambda row: [effect(SAY, clean=(SAY, row))], (2, 1, 1)),
    "later": (lambda row: [effect(SAY, later(SAY, row))], (2, 0, 1, 0, 1)),
    "later of a handler": (lambda row: [handler(later(row))], (2, 0, 0, 0, 0)),
    "first": (lambda row: [effect(either(row))], (2, 0, 0, 0, 0)),
    "second": (lambda row: [handler(either(SAY, other=(SAY, row)))], (2, 0, 0, 1, 1)),
    "clean, deep": (lambda row: [effect(clean=(either(either(row)),))], (2, 1, 0, 0, 0, 0, 0)),
    "later, deep": (lambda row: [handler(later(either(either(other=(row,)))))], (2, 0, 0, 0, 0, 0, 0, 1, 0)),
}


class Forms(unittest.TestCase):

    def test_each_form_stands_in_the_call(self):
        for kind, row in CALL_SAMPLES.items():
            for name, (inside, path) in CALL_PLACES.items():
                if kind == "if" and name == "deepest":
                    continue
                with self.subTest(kind=kind, place=name):
                    self.assertEqual(part_of(*inside(row)).row_at(path), row)

    def test_each_form_stands_in_functions(self):
        for kind, row in FUNCTION_SAMPLES.items():
            places = dict(BODY_PLACES) if kind == "later" else {**BODY_PLACES, **INNER_PLACES}
            for name, (inside, path) in places.items():
                if kind == "if" and name.endswith("deep"):
                    continue
                with self.subTest(kind=kind, place=name):
                    self.assertEqual(part_of(*inside(row)).row_at(path), row)

    def test_edges_of_right_items(self):
        for row in [("effect", None, (), ()), ("effect", (), (), ()), ("effect", ("a", "b", "c", "d"), (), ()),
                    ("handler", "go", None, ()), ("handler", "go", (), ()), ("handler", "go", ("d", "c", "b", "a"), ()),
                    ("kept", "k", "x", ("off", "off"), ()), ("kept", "k", "k", ("on", "on"), ("k", "x", "y", "z")),
                    ("if", "abcdefgh", "on", (), ()), ("map", "m", "m", ("on", "on"))]:
            with self.subTest(row=row):
                self.assertIsNone(refused_rows(row))
        self.assertIsNone(refused_rows(handler(later())))

    def test_tables_have_a_word_for_each_word(self):
        words = ("off", "mid", "on", "end")
        self.assertIsNone(refused(words, (), (), (("map", "m", "n", ("on", "on", "off", "end")),)))
        for table in [("on", "off"), ("on", "off", "on"), ("on",) * 5, ("on", "off", "on", "no")]:
            self.assertEqual(refused(words, (), (), (("map", "m", "n", table),)), ("rows", (0,)))

    def test_each_item_wrong_in_the_call(self):
        for kind, row in CALL_SAMPLES.items():
            for name, (inside, path) in CALL_PLACES.items():
                for wrong in wrong_forms(row):
                    with self.subTest(place=name, row=wrong):
                        self.assertEqual(refused_rows(*inside(wrong)), ("rows", path))

    def test_each_item_wrong_in_functions(self):
        for kind, row in FUNCTION_SAMPLES.items():
            for name, (inside, path) in {**BODY_PLACES, **INNER_PLACES}.items():
                for wrong in wrong_forms(row):
                    with self.subTest(place=name, row=wrong):
                        self.assertEqual(refused_rows(*inside(wrong)), ("rows", path))

    def test_what_is_no_row(self):
        for places in (CALL_PLACES, BODY_PLACES, INNER_PLACES):
            for name, (inside, path) in places.items():
                for wrong in NO_ROWS + list(nested(14)):
                    with self.subTest(place=name, row=wrong):
                        self.assertEqual(refused_rows(*inside(wrong)), ("rows", path))

    def test_rows_that_are_no_tuple(self):
        for rows in [None, True, 0, "", "rows", [], [SHOW], {}, {(0,): SHOW}]:
            with self.subTest(rows=rows):
                self.assertEqual(refused(WORDS, INPUTS, EVENTS, rows), ("rows", ()))

    def test_a_row_in_the_place_of_rows_gives_its_first_item(self):
        self.assertEqual(refused(WORDS, INPUTS, EVENTS, SHOW), ("rows", (0,)))
        self.assertEqual(refused(WORDS, INPUTS, EVENTS, (effect(*SAY),)), ("rows", (0, 0, 0)))


class Places(unittest.TestCase):

    def test_call_rows_in_functions(self):
        for row in ONLY_CALL:
            for name, (inside, path) in {**BODY_PLACES, **INNER_PLACES}.items():
                with self.subTest(place=name, row=row):
                    self.assertEqual(refused_rows(*inside(row)), ("rows", path))

    def test_function_rows_in_the_call(self):
        for row in ONLY_FUNCTION:
            for name, (inside, path) in CALL_PLACES.items():
                with self.subTest(place=name, row=row):
                    self.assertEqual(refused_rows(*inside(row)), ("rows", path))

    def test_later_in_a_wrong_place(self):
        for name, (inside, path) in INNER_PLACES.items():
            for row in (later(), later(SAY), later(None)):
                with self.subTest(place=name, row=row):
                    self.assertEqual(refused_rows(*inside(row)), ("rows", path))

    def test_depth_of_if_in_the_call(self):
        for halves in itertools.product((0, 1), repeat=3):
            row = either(SHOW)
            for half in halves[1:]:
                row = either(row) if half == 0 else either(other=(row,))
            with self.subTest(halves=halves):
                self.assertIsNone(refused_rows(row))
                deeper = either(row) if halves[0] == 0 else either(other=(row,))
                path = (2, halves[0], 0)
                for half in reversed(halves[1:]):
                    path = path + (half, 0)
                self.assertEqual(refused_rows(deeper), ("rows", path))

    def test_depth_of_if_in_functions(self):
        wraps = {(2, 0, 0): effect, (2, 1, 0): lambda row: effect(clean=(row,)),
                 (2, 0, 0, 0, 0): lambda row: handler(later(row))}
        for path, wrap in wraps.items():
            with self.subTest(path=path):
                self.assertIsNone(refused_rows(wrap(either(either(SAY)))))
                self.assertIsNone(refused_rows(wrap(either(other=(either(other=(SAY,)),)))))
                self.assertEqual(refused_rows(wrap(either(either(either())))), ("rows", path + (0, 0, 0, 0)))
                self.assertEqual(refused_rows(wrap(either(other=(either(other=(SAY, either())),)))),
                                 ("rows", path + (1, 0, 1, 1)))

    def test_a_function_inside_ifs_begins_at_depth_one(self):
        row = either(either(either(handler(either(either(SAY)), later(either(either(SAY)))))))
        self.assertIsNone(refused_rows(row))


class Order(unittest.TestCase):

    def test_the_first_wrong_row_is_named(self):
        bad = ("cell", "c", "maybe")
        right = part_of(either(SHOW, either(SHOW), other=(SHOW,)), effect(SAY, either(SAY), clean=(SAY,)),
                        handler(SAY, later(SAY), SAY), SHOW)
        paths = [path for path in right.row_paths() if right.row_at(path) in (SHOW, SAY)]
        self.assertEqual(len(paths), 10)
        for first, second in itertools.combinations(paths, 2):
            rows = replaced(replaced(right.rows, first, bad), second, bad)
            with self.subTest(first=first, second=second):
                self.assertEqual(refused(WORDS, INPUTS, EVENTS, rows), ("rows", first))

    def test_a_row_is_judged_before_the_rows_in_it(self):
        for row in [("if", "x", "maybe", (None,), ()), ("if", "x", "on", (None,), []), ("if", "x", "on", (None,), None),
                    ("effect", ("a", "a"), (None,), ()), ("effect", (), (None,), [None]), ("effect", (), (None,)),
                    ("handler", "stop", None, (None,)), ("handler", "go", None, (None,), ())]:
            with self.subTest(row=row):
                self.assertEqual(refused_rows(row), ("rows", (2,)))
                self.assertEqual(refused_rows(either(row, None)), ("rows", (2, 0, 0)))
        self.assertEqual(refused_rows(effect(("later", (None,), ()))), ("rows", (2, 0, 0)))
        self.assertEqual(refused_rows(effect(either(later(None)))), ("rows", (2, 0, 0, 0, 0)))

    def test_the_rows_in_a_row_come_before_the_next_row(self):
        self.assertEqual(refused_rows(either(SHOW, other=(None,)), None), ("rows", (2, 1, 0)))
        self.assertEqual(refused_rows(effect(clean=(None,)), None), ("rows", (2, 1, 0)))
        self.assertEqual(refused_rows(handler(later(SAY, None), None), None), ("rows", (2, 0, 0, 0, 1)))
        self.assertEqual(refused_rows(effect(SAY, None, clean=(None,))), ("rows", (2, 0, 1)))

    def test_right_rows_ahead_do_not_hide_a_wrong_one(self):
        for row in ALL_SAMPLES:
            self.assertEqual(refused_rows(*CALL_SAMPLES.values(), with_item(row, 0, "none")), ("rows", (11,)))


def replaced(rows, path, row):
    """The rows of a part with one row replaced, without any check."""
    if len(path) == 1:
        return with_item(rows, path[0], row)
    outer = rows[path[0]]
    at = {"if": 3, "effect": 2, "handler": 3, "later": 1}[outer[0]] + path[1]
    return with_item(rows, path[0], with_item(outer, at, replaced(outer[at], path[2:], row)))


class Accepted(unittest.TestCase):

    def test_an_empty_part(self):
        part = Part(WORDS, (), (), ())
        self.assertEqual([part.slots(), part.hooks(), part.functions(), part.row_paths()], [(), [], [], []])
        self.assertTrue(part.is_steady())


if __name__ == "__main__":
    unittest.main()
