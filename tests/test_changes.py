"""Point 50: changes, and parts with changes."""

import itertools
import unittest

from calledanew.errors import InvalidChange
from calledanew.heals import is_change, with_changes
from calledanew.lists import with_list
from calledanew.parts import Part
from deeds import SWAP, screen
from random_parts import parts_of
from samples import BAD_LISTS, NO_PATHS, effect, either, handler, later, nested, rich_part, with_item
from shelves import EMPTY, SAY_A, STALE

KEPT = ("kept", "k", "x", SWAP, ("x",))
PART = screen(("cell", "a", "off"), KEPT, effect(SAY_A, later(SAY_A), slots=("a",)), handler(SAY_A, slots=()),
              either(KEPT, other=(effect(SAY_A), handler(SAY_A, slots=None))), ("show", "k"))
KEPTS = [(1,), (4, 0, 0)]
OTHERS = [(2,), (3,), (4, 1, 0), (4, 1, 1)]
LISTS = [(), ("a",), ("x", "a"), ("d", "c", "b", "a"), ("other", "names")]


def refused(part, changes):
    """The index with which the changes are refused, or None."""
    try:
        with_changes(part, changes)
    except InvalidChange as error:
        return error.index
    return None


class Values(unittest.TestCase):

    def test_each_form(self):
        for path, slots in itertools.product(KEPTS + OTHERS, LISTS):
            self.assertIs(is_change(PART, ("list", path, slots)), True)
        for path in OTHERS:
            self.assertIs(is_change(PART, ("none", path)), True)
        for path in KEPTS:
            self.assertIs(is_change(PART, ("none", path)), False)

    def test_names_that_no_row_names_and_the_list_that_the_row_has(self):
        self.assertIs(is_change(PART, ("list", (2,), ("nowhere",))), True)
        self.assertIs(is_change(PART, ("list", (2,), ("a",))), True)
        self.assertIs(is_change(PART, ("none", (4, 1, 1))), True)

    def test_other_rows_and_other_paths(self):
        for part in [PART, rich_part()] + parts_of(61, 20):
            kinds = {path: part.row_at(path)[0] for path in part.row_paths()}
            for path in part.row_paths() + part.functions() + NO_PATHS + list(nested(18)):
                kind = kinds.get(path) if type(path) is tuple and path in part.row_paths() and \
                    not any(type(item) is bool for item in path) else None
                self.assertIs(is_change(part, ("list", path, ("a",))), kind in ("kept", "effect", "handler"))
                self.assertIs(is_change(part, ("none", path)), kind in ("effect", "handler"))
        self.assertIs(is_change(EMPTY, ("list", (0,), ())), False)

    def test_wrong_lists(self):
        for path, slots in itertools.product(KEPTS + OTHERS, BAD_LISTS + [None] + list(nested(18))):
            if slots != ("a",):
                self.assertIs(is_change(PART, ("list", path, slots)), False)

    def test_spoiled_at_every_place(self):
        for change in (("list", (2,), ("a", "x")), ("list", (4, 1, 0), ()), ("none", (4, 1, 1)), ("none", (3,))):
            for value in [list(change), change[:-1], change + ((),), change + (None,), change[1:], change[::-1],
                          (change,),
                          [change], {change: change}, *change]:
                self.assertIs(is_change(PART, value), False)
            for at, item in itertools.product(range(len(change)),
                                              [None, True, 0, "", "list", "none", "List", "lists", [],
                                                                   {}, ["list"], ["none"], [2], [("a",)], ["a", "x"],
                                               "a",
                                                                   (2.0,), (True,), ("2",),
                                               ((2,),)] + list(nested(18))):
                value = with_item(change, at, item)
                if value != change and value not in (("list", (2,)), ("none", (2,))):
                    expected = at == 2 and item == ("a",)
                    self.assertIs(is_change(PART, value), expected)

    def test_flags_in_paths(self):
        part = screen(effect(SAY_A), effect(SAY_A), either(effect(SAY_A), slot="x"))
        for path in ((False,), (True,), (2, False, 0), (2, 0, False)):
            self.assertIs(is_change(part, ("none", path)), False)
            self.assertIs(is_change(part, ("list", path, ())), False)

    def test_values_of_any_kind(self):
        for value in [None, True, False, 0, 1, "", "list", "none", (), [], {}, ("list",), ("none",), ("list", (2,)),
                      ("none", (2,), ()), ("none", (2,), None), ("list", (2,), (), ()), ("list", (2,), None), ((), ()),
                      ((), (), ()), ([], [], []), ({}, {})] + list(nested(20)):
            self.assertIs(is_change(PART, value), False)


class Made(unittest.TestCase):

    def test_one_change(self):
        for path, slots in itertools.product(KEPTS + OTHERS, LISTS):
            self.assertEqual(with_changes(PART, [("list", path, slots)]), with_list(PART, path, slots))
        for path in OTHERS:
            self.assertEqual(with_changes(PART, (("none", path),)), with_list(PART, path, None))

    def test_none_at_all(self):
        for changes in ([], ()):
            self.assertEqual(with_changes(PART, changes), PART)
            self.assertIsInstance(with_changes(EMPTY, changes), Part)

    def test_several_at_different_rows(self):
        changes = [("list", (1,), ()), ("none", (2,)), ("list", (4, 1, 1), ("q",)), ("none", (4, 1, 0))]
        expected = with_list(with_list(with_list(with_list(PART, (1,), ()), (2,), None), (4, 1, 1), ("q",)), (4, 1, 0),
                             None)
        for order in itertools.permutations(changes):
            self.assertEqual(with_changes(PART, order), expected)
            self.assertEqual(with_changes(PART, list(order)), expected)

    def test_of_several_at_one_path_the_last_one_counts(self):
        changes = [("list", (2,), ()), ("none", (2,)), ("list", (2,), ("q",)), ("list", (2,), ("a",))]
        for order in itertools.permutations(changes):
            last = order[-1]
            self.assertEqual(with_changes(PART, order), with_list(PART, (2,), last[2] if len(last) == 3 else None))

    def test_a_change_to_the_list_that_the_row_has(self):
        for changes in ([("list", (2,), ("a",))], [("none", (4, 1, 1))], [("none", (2,)), ("list", (2,), ("a",))]):
            self.assertEqual(with_changes(PART, changes), PART)

    def test_the_part_stays(self):
        rows = PART.rows
        changes = [("list", (2,), ()), ("none", (3,))]
        with_changes(PART, changes)
        self.assertEqual([PART.rows, changes], [rows, [("list", (2,), ()), ("none", (3,))]])


class Refused(unittest.TestCase):

    GOOD = [("list", (2,), ()), ("none", (3,)), ("list", (2,), ("q",))]

    def test_one_that_is_no_change(self):
        for value in [None, True, "", [], {}, (), ("none", (1,)), ("list", (0,), ()), ["none", (3,)],
                      ("list", (2,), None),
                      ("list", (2,), ("a", "a")), ("none", (True,))] + list(nested(20)):
            for at in range(4):
                for make in (list, tuple):
                    self.assertEqual(refused(PART, make(self.GOOD[:at] + [value] + self.GOOD[at:])), at)
                self.assertEqual(refused(PART, self.GOOD[:at] + [value, value]), at)

    def test_equal_ones(self):
        self.assertEqual(refused(PART, [self.GOOD[0], self.GOOD[0]]), 1)
        self.assertEqual(refused(PART, self.GOOD + [self.GOOD[1]]), 3)
        self.assertEqual(refused(PART, self.GOOD[:2] * 2), 2)
        self.assertEqual(refused(PART, [self.GOOD[1], self.GOOD[1], None]), 1)
        self.assertEqual(refused(PART, [None, self.GOOD[1], self.GOOD[1]]), 0)
        self.assertIsNone(refused(PART, self.GOOD))

    def test_more_than_eight_changes_may_be_made(self):
        changes = [("list", (1,), (slot,)) for slot in "abcdefghijkl"]
        self.assertIsNone(refused(STALE, changes))
        self.assertEqual(with_changes(STALE, changes), with_list(STALE, (1,), ("l",)))


if __name__ == "__main__":
    unittest.main()
