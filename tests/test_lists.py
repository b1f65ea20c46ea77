"""Point 42: the lists of rows, what is missing and surplus in them, and other lists in their place."""

import itertools
import unittest

from calledanew.errors import InvalidPart, InvalidPath
from calledanew.lists import full_list, is_complete, list_at, missing_slots, surplus_slots, with_list
from calledanew.parts import Part
from deeds import SWAP, screen
from random_parts import parts_of
from samples import BAD_LISTS, NO_PATHS, effect, either, handler, later, nested, rich_part

KEPT = ("kept", "k", "x", SWAP, ("a", "x"))
SAYS = tuple([("say", slot) for slot in ("c", "a", "b")])
MANY = tuple([("say", slot) for slot in ("f", "e", "d", "c", "b", "a")])
ASKS = (list_at, full_list, missing_slots, surplus_slots)
LISTS = [(), ("a",), ("b", "a"), ("x", "y", "z"), ("d", "c", "b", "a"), ("other",)]


def answers(part, path):
    return [ask(part, path) for ask in ASKS]


class Rows(unittest.TestCase):

    def test_kept_rows(self):
        for slots, missing, surplus in [((), ("x",), ()), (("x",), (), ()), (("a",), ("x",), ("a",)),
                                        (("z", "x", "b", "a"), (), ("a", "b", "z")), (("k",), ("x",), ("k",))]:
            part = screen(("kept", "k", "x", SWAP, slots))
            self.assertEqual(answers(part, (0,)), [slots, ("x",), missing, surplus])

    def test_effect_rows_ask_their_bodies_alone(self):
        for slots, missing, surplus in [((), ("a", "b", "c"), ()), (("c", "a", "b"), (), ()), (("b",), ("a", "c"), ()),
                                        (("y", "c", "x"), ("a", "b"), ("x", "y")), (None, (), ())]:
            part = screen(effect(*SAYS, slots=slots, clean=(("say", "x"), ("say", "q"))))
            self.assertEqual(answers(part, (0,)), [slots, ("a", "b", "c"), missing, surplus])

    def test_handler_rows(self):
        for slots, missing, surplus in [((), ("a", "b", "c"), ()), (("c", "a", "b"), (), ()), (("b",), ("a", "c"), ()),
                                        (("y", "c", "x"), ("a", "b"), ("x", "y")), (None, (), ())]:
            part = screen(handler(*SAYS, slots=slots))
            self.assertEqual(answers(part, (0,)), [slots, ("a", "b", "c"), missing, surplus])

    def test_what_a_body_holds(self):
        ways = (("put", "a", "on"), ("say", "a"), either(("say", "b"), other=(("put", "c", "off"),), slot="d"),
                ("say", "c"))
        late = (("say", "b"), later(("say", "c"), ("put", "f", "on"), ("say", "f")), ("put", "c", "on"))
        for rows, expected in ((ways, ("b", "c", "d")), (late, ("b", "c"))):
            for row in (effect(*rows), handler(*rows, slots=())):
                part = screen(row)
                self.assertEqual(full_list(part, (0,)), expected)
                self.assertEqual(full_list(part, (0,)), part.held((0, 0)))

    def test_empty_bodies(self):
        for row in (effect(slots=("a",), clean=(("say", "b"),)), handler(slots=("a",))):
            self.assertEqual(answers(screen(row), (0,)), [("a",), (), (), ("a",)])

    def test_rows_inside_if_rows(self):
        part = screen(either(("show", "x"), either(other=(KEPT,)), other=(effect(("say", "a")), handler(("say", "b")))))
        self.assertEqual(answers(part, (0, 0, 1, 1, 0)), [("a", "x"), ("x",), (), ("a",)])
        self.assertEqual(answers(part, (0, 1, 0)), [(), ("a",), ("a",), ()])
        self.assertEqual(answers(part, (0, 1, 1)), [None, ("b",), (), ()])

    def test_more_than_four_slots(self):
        for row in (effect(*MANY, slots=("e", "x")), handler(*MANY, slots=("e", "x"))):
            self.assertEqual(answers(screen(row), (0,)), [("e", "x"), ("a", "b", "c", "d", "e", "f"),
                                                          ("a", "b", "c", "d", "f"), ("x",)])

    def test_drawn_parts(self):
        count = 0
        for part in parts_of(31, 150):
            for path in part.hooks():
                row = part.row_at(path)
                if row[0] in ("kept", "effect", "handler"):
                    count += 1
                    own = {"kept": row[4:], "effect": row[1:2], "handler": row[2:3]}[row[0]][0]
                    full = {row[2]} if row[0] == "kept" else set(part.held(path + (0,)))
                    given = full if own is None else set(own)
                    self.assertEqual(answers(part, path), [own, tuple(sorted(full)), tuple(sorted(full - given)),
                                                           tuple(sorted(set(own or ()) - full))])
        self.assertGreater(count, 200)


class Paths(unittest.TestCase):

    def refuses(self, part, path):
        for ask in ASKS + (lambda part, path: with_list(part, path, None),):
            with self.assertRaises(InvalidPath) as caught:
                ask(part, path)
            self.assertIs(caught.exception.path, path)

    def test_all_other_paths_of_a_part(self):
        for part in [rich_part()] + parts_of(32, 40):
            for path in part.row_paths() + part.functions():
                if path in part.functions() or part.row_at(path)[0] not in ("kept", "effect", "handler"):
                    self.refuses(part, path)

    def test_values_that_are_no_path(self):
        part = screen(KEPT, handler())
        for path in NO_PATHS + list(nested(20)) + [(2,), (0, 0), (1, 0), (1, 0, 0), (0.0,), [1], "1", (True,),
                                                   (False,)]:
            self.refuses(part, path)
        self.refuses(Part(("a", "b"), (), (), ()), (0,))

    def test_the_path_comes_before_the_list(self):
        for slots in BAD_LISTS:
            with self.assertRaises(InvalidPath):
                with_list(screen(KEPT), (1,), slots)


class Complete(unittest.TestCase):

    def test_parts_without_list_rows(self):
        self.assertIs(is_complete(Part(("a", "b"), (), (), ())), True)
        self.assertIs(is_complete(screen(("cell", "a", "off"), ("box", "b", "off"), ("show", "a"), either())), True)

    def test_one_row(self):
        for row, expected in [(KEPT, True), (("kept", "k", "x", SWAP, ("a",)), False), (effect(("say", "a")), False),
                              (effect(("say", "a"), slots=("a",)), True), (effect(("say", "a"), slots=None), True),
                              (effect(clean=(("say", "a"),)), True), (handler(("say", "a")), True),
                              (handler(("say", "a"), slots=("b",)), False), (handler(*MANY), True),
                              (handler(*MANY, slots=("a", "b", "c", "d")), False)]:
            for place in (row, either(row), either(other=(either(row),))):
                self.assertIs(is_complete(screen(place)), expected)
                self.assertIs(is_complete(screen(KEPT, place, ("show", "x"))), expected)

    def test_drawn_parts(self):
        seen = []
        for part in parts_of(33, 150):
            paths = [path for path in part.hooks() if part.row_at(path)[0] in ("kept", "effect", "handler")]
            expected = all(missing_slots(part, path) == () for path in paths)
            seen.append(expected)
            self.assertIs(is_complete(part), expected)
        self.assertGreater(min(seen.count(True), seen.count(False)), 20)


class OtherLists(unittest.TestCase):

    ROWS = (KEPT, either(effect(*SAYS, clean=(("say", "q"),)), other=(handler(*SAYS, slots=None),)), ("show", "k"))
    PATHS = {(0,): ("kept", 4), (1, 0, 0): ("effect", 1), (1, 1, 0): ("handler", 2)}

    def test_the_row_has_the_list_and_nothing_else_changes(self):
        part = screen(*self.ROWS)
        for (path, (kind, at)), slots in itertools.product(self.PATHS.items(), LISTS + [None]):
            if kind == "kept" and slots is None:
                continue
            other = with_list(part, path, slots)
            self.assertEqual(list_at(other, path), slots)
            row = part.row_at(path)
            self.assertEqual(other, part.with_row(path, row[:at] + (slots,) + row[at + 1:]))
            self.assertEqual(part.rows, self.ROWS)
            self.assertIsInstance(other, Part)
            for elsewhere in self.PATHS:
                if elsewhere != path:
                    self.assertEqual(other.row_at(elsewhere), part.row_at(elsewhere))

    def test_back_to_its_own_list(self):
        for part in [screen(*self.ROWS)] + parts_of(34, 60):
            for path in part.hooks():
                if part.row_at(path)[0] in ("kept", "effect", "handler"):
                    other = with_list(part, path, ("p", "q"))
                    back = with_list(other, path, list_at(part, path))
                    self.assertTrue(back == part)
                    self.assertIsNot(with_list(part, path, list_at(part, path)), part)

    def test_lists_that_are_not_valid(self):
        part = screen(*self.ROWS)
        for (path, (kind, at)), slots in itertools.product(self.PATHS.items(), BAD_LISTS + list(nested(20)) + [None]):
            if slots == ("a",) or (slots is None and kind != "kept"):
                continue
            with self.assertRaises(InvalidPart) as caught:
                with_list(part, path, slots)
            self.assertEqual((caught.exception.part, caught.exception.path), ("rows", path))


if __name__ == "__main__":
    unittest.main()
