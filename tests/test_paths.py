"""Points 8 and 10: paths, program order, and the rows at them."""

import unittest

from calledanew.errors import InvalidPart, InvalidPath
from calledanew.parts import Part
from samples import (CALL_SAMPLES, EVENTS, INPUTS, NO_PATHS, NO_ROWS, RICH_FUNCTIONS, RICH_HOOKS, RICH_ROWS, SWAP,
                     WORDS, effect, either, handler, later, nested, part_of, rich_part)

SAY = ("say", "x")
SHOW = ("show", "x")


class ProgramOrder(unittest.TestCase):

    def setUp(self):
        self.part = rich_part()

    def test_paths_of_rows(self):
        self.assertEqual(self.part.row_paths(), RICH_ROWS)

    def test_paths_of_hooks(self):
        self.assertEqual(self.part.hooks(), RICH_HOOKS)

    def test_paths_of_functions(self):
        self.assertEqual(self.part.functions(), RICH_FUNCTIONS)

    def test_program_order_is_the_ascending_order_of_paths(self):
        for paths in (RICH_ROWS, RICH_HOOKS, RICH_FUNCTIONS):
            self.assertEqual(paths, sorted(paths))

    def test_many_places_are_ordered_as_numbers(self):
        part = Part(WORDS, (), (), (SHOW,) * 12 + (effect(*(SAY,) * 8),))
        self.assertEqual(part.row_paths()[:13], [(place,) for place in range(13)])

    def test_lists_of_tuples_of_integers(self):
        for paths in (self.part.row_paths(), self.part.hooks(), self.part.functions()):
            self.assertIs(type(paths), list)
            for path in paths:
                self.assertIs(type(path), tuple)
                self.assertTrue(all(type(item) is int for item in path))

    def test_a_clean_and_a_body_without_rows_are_functions(self):
        part = Part(WORDS, (), ("go",), (effect(), handler(), handler(later())))
        self.assertEqual(part.functions(), [(0, 0), (0, 1), (1, 0), (2, 0), (2, 0, 0, 0)])

    def test_each_kind_of_hook_and_no_other_row(self):
        part = Part(WORDS, INPUTS, EVENTS, tuple(CALL_SAMPLES.values()) + (("cell", "a", "off"),))
        self.assertEqual(part.hooks(), [(0,), (1,), (2,), (3,), (4,), (9,)])

    def test_a_part_without_hooks(self):
        part = Part(WORDS, INPUTS, EVENTS, (SHOW, either(SHOW), ("put", "a", "on")))
        self.assertEqual([part.hooks(), part.functions()], [[], []])
        self.assertEqual(part.row_paths(), [(0,), (1,), (1, 0, 0), (2,)])


class RowAt(unittest.TestCase):

    def refused(self, part, path):
        with self.assertRaises(InvalidPath) as caught:
            part.row_at(path)
        return caught.exception.path

    def test_each_row(self):
        part = rich_part()
        starts = {"if": 3, "effect": 2, "handler": 3, "later": 1}
        for path in RICH_ROWS:
            row = part.rows[path[0]]
            for number, place in zip(path[1::2], path[2::2]):
                row = row[starts[row[0]] + number][place]
            with self.subTest(path=path):
                self.assertIs(part.row_at(path), row)
        self.assertEqual(part.row_at((1, 0, 1, 1, 0, 0, 1)), ("later", (("turn", "a", SWAP),)))
        self.assertEqual(part.row_at((2, 0, 0, 1, 0, 1, 0)), ("put", "q", "on"))
        self.assertEqual(part.row_at((1, 0, 1, 1, 0, 1, 0)), ("say", "x"))

    def test_other_values(self):
        part = rich_part()
        for value in NO_PATHS + list(nested(20)) + RICH_FUNCTIONS:
            with self.subTest(value=value):
                self.assertIs(self.refused(part, value), value)

    def test_paths_near_to_a_path(self):
        part = rich_part()
        for path in RICH_ROWS:
            near = [path[:-1], path + (0,), path + (0, 99), path + (-1, 0), path + (True, 0), list(path),
                    path[:-1] + (99,), path[:-1] + (-1,), path[:-1] + (-2,), path[:-1] + (str(path[-1]),),
                    path[:-1] + ([path[-1]],), path[:-1] + (None,), path[:-1] + ({},), path[:-1] + ((path[-1],),),
                    str(path), (path,), {path: 0}]
            near += [path[:at] + (item == 1,) + path[at + 1:] for at, item in enumerate(path) if item in (0, 1)]
            for value in near:
                with self.subTest(value=value):
                    self.assertIs(self.refused(part, value), value)

    def test_numbers_of_rows_that_an_if_does_not_have(self):
        part = part_of(either(SHOW, other=(SHOW,)), effect(SAY, clean=(SAY,)), handler(SAY), SHOW)
        for value in [(2, 2, 0), (2, -1, 0), (3, 2, 0), (4, 1, 0), (5, 0, 0), (2, 0, 1), (6,)]:
            with self.subTest(value=value):
                self.assertIs(self.refused(part, value), value)

    def test_no_path_leads_to_a_row_of_an_empty_part(self):
        for value in NO_PATHS + [(0,)]:
            self.assertIs(self.refused(Part(WORDS, (), (), ()), value), value)


class WithRow(unittest.TestCase):

    def test_each_row_is_replaced_alone(self):
        for path in RICH_ROWS:
            part = rich_part()
            in_function = any(path[:len(function)] == function for function in RICH_FUNCTIONS)
            row = ("say", "new") if in_function else ("show", "new")
            if path == (0,):
                row = ("cell", "a", "on")
            if path == (1, 0, 0):
                row = ("box", "b", "on")
            other = part.with_row(path, row)
            with self.subTest(path=path):
                self.assertIsInstance(other, Part)
                self.assertIs(other.row_at(path), row)
                self.assertTrue(part == rich_part())
                self.assertFalse(other == part)
                self.assertEqual((other.words, other.inputs, other.events), (part.words, part.inputs, part.events))
                for kept in RICH_ROWS:
                    if kept != path[:len(kept)] and path != kept[:len(path)]:
                        self.assertIs(other.row_at(kept), part.row_at(kept))
                expected = [kept for kept in RICH_ROWS if kept == path or kept[:len(path)] != path]
                self.assertEqual(other.row_paths(), expected)

    def test_the_same_row_gives_an_equal_new_part(self):
        part = rich_part()
        for path in RICH_ROWS:
            other = part.with_row(path, part.row_at(path))
            self.assertTrue(other == part)
            self.assertIsNot(other, part)

    def test_questions_to_the_new_part(self):
        part = part_of(handler(SAY), SHOW)
        other = part.with_row((2,), either(effect(("say", "v"), ("turn", "a", SWAP)), other=(SHOW,)))
        self.assertEqual(other.hooks(), [(0,), (1,), (2, 0, 0)])
        self.assertEqual(other.functions(), [(2, 0, 0, 0), (2, 0, 0, 1)])
        self.assertEqual(other.held((2, 0, 0, 0)), ("v",))
        self.assertEqual(other.links((2, 0, 0, 0)), (("cell", "a"),))
        self.assertEqual(other.slots(), ("x", "a", "v"))
        self.assertFalse(other.is_steady())
        self.assertEqual(part.hooks(), [(0,), (1,), (2,)])
        self.assertEqual(part.functions(), [(2, 0)])
        self.assertTrue(part.is_steady())

    def test_wrong_paths(self):
        part = rich_part()
        for value in NO_PATHS + list(nested(20)) + RICH_FUNCTIONS:
            for row in (("show", "x"), None):
                with self.subTest(value=value), self.assertRaises(InvalidPath) as caught:
                    part.with_row(value, row)
                self.assertIs(caught.exception.path, value)

    def refusal(self, part, path, row):
        with self.assertRaises(InvalidPart) as caught:
            part.with_row(path, row)
        return (caught.exception.part, caught.exception.path)

    def test_wrong_rows(self):
        part = rich_part()
        for path in RICH_ROWS:
            for row in NO_ROWS + list(nested(20)):
                with self.subTest(path=path, row=row):
                    self.assertEqual(self.refusal(part, path, row), ("rows", path))
        self.assertTrue(part == rich_part())

    def test_the_new_part_is_checked_as_a_whole(self):
        part = part_of(effect(("turn", "a", SWAP), clean=(("write", "b", "x"),)), SHOW, *(SHOW,) * 12)
        self.assertEqual(self.refusal(part, (0,), SHOW), ("names", (2, 0, 0)))
        self.assertEqual(self.refusal(part, (1,), SHOW), ("names", (2, 1, 0)))
        self.assertEqual(self.refusal(part, (3,), ("cell", "a", "on")), ("names", (3,)))
        self.assertEqual(self.refusal(part, (3,), ("put", "x", "on")), ("names", (3,)))
        self.assertEqual(self.refusal(part, (3,), either(SHOW)), ("many", ()))
        self.assertEqual(self.refusal(part, (2, 0, 0), either(*(SAY,) * 8)), ("many", (2, 0)))
        self.assertEqual(self.refusal(part, (2, 1, 0), later(SAY)), ("rows", (2, 1, 0)))
        self.assertEqual(self.refusal(part, (2, 0, 0), SHOW), ("rows", (2, 0, 0)))
        self.assertEqual(self.refusal(part, (3,), either(SHOW, SAY)), ("rows", (3, 0, 1)))

    def test_depth_counts_at_the_place(self):
        part = part_of(either(either(either(SHOW))), effect(either(either(SAY))))
        self.assertEqual(self.refusal(part, (2, 0, 0, 0, 0, 0, 0), either()), ("rows", (2, 0, 0, 0, 0, 0, 0)))
        self.assertEqual(self.refusal(part, (3, 0, 0, 0, 0, 0, 0), either()), ("rows", (3, 0, 0, 0, 0, 0, 0)))
        self.assertEqual(self.refusal(part, (3, 0, 0, 0, 0), later()), ("rows", (3, 0, 0, 0, 0)))
        self.assertEqual(part.with_row((3, 0, 0), later()).functions(), [(3, 0), (3, 0, 0, 0), (3, 1)])


if __name__ == "__main__":
    unittest.main()
