"""Points 52 and 53: the desk."""

import itertools
import random
import unittest

from calledanew.books import Book
from calledanew.desk import Desk
from calledanew.errors import (InvalidBound, InvalidKind, InvalidPart, InvalidPath, LimitExceeded, NothingToRedo,
                               NothingToUndo)
from calledanew.judge import KINDS
from calledanew.lists import with_list
from calledanew.parts import Part
from calledanew.rules import Rule, all_rules
from calledanew.verdicts import Verdict
from deeds import BAD_BOUNDS, CALL, EACH, PASS, RULES, SWAP, screen
from samples import NO_PATHS, NO_ROWS, effect, handler, nested, rich_part
from shelves import (ALL, BACK, CELL, EMPTY, FIFTY, FIFTY_ONE, FULL, MIXED, NEVER, SAY_A, SAY_X, STALE, TURN_A,
                     TWO_INPUTS,
                     WAITS)

PART = screen(CELL, handler(SAY_A, TURN_A, slots=()), effect(SAY_A, slots=("x",)), ("show", "a"))
FULL_HANDLER = ("handler", "go", ("a",), (SAY_A, TURN_A))
FREE_HANDLER = ("handler", "go", None, (SAY_A, TURN_A))
FULL_EFFECT = ("effect", ("a",), (SAY_A,), ())


def state(desk):
    """All that can be asked about a desk without a change."""
    return (desk.current, len(desk), desk.watched, [verdict and verdict.pairs() for verdict in desk.verdicts()])


def unwound(desk):
    """The parts behind each undo and each redo, back to where the desk was."""
    behind, ahead, undone, redone = [], [], 0, 0
    here = desk.current
    while len(desk):
        desk.undo()
        undone += 1
        behind.append(desk.current)
    for count in range(undone):
        desk.redo()
    assert desk.current is here
    while True:
        try:
            desk.redo()
        except NothingToRedo:
            break
        redone += 1
        ahead.append(desk.current)
    for count in range(redone):
        desk.undo()
    assert desk.current is here
    return behind, ahead


class Made(unittest.TestCase):

    def test_a_new_desk(self):
        desk = Desk(PART, [PASS])
        self.assertIs(desk.current, PART)
        self.assertEqual([len(desk), desk.watched], [0, ()])
        for ask, error in ((desk.undo, NothingToUndo), (desk.redo, NothingToRedo)):
            with self.assertRaises(error):
                ask()

    def test_one_to_four_rules_in_a_list_or_tuple(self):
        for many in range(1, 5):
            for rules in itertools.permutations(RULES, many):
                for make in (list, tuple):
                    desk = Desk(STALE, make(rules))
                    desk |= "stale"
                    desk |= "round"
                    self.assertEqual([verdict.pairs() for verdict in desk.verdicts()],
                                     [Book(STALE, rule).faults() for rule in rules])
        self.assertEqual(len(Desk(STALE, [PASS, PASS, PASS]).verdicts()), 3)

    def test_later_changes_of_the_list_of_rules(self):
        rules = [PASS, CALL]
        desk = Desk(NEVER, rules)
        desk |= "round"
        before = [verdict.pairs() for verdict in desk.verdicts()]
        self.assertEqual(before, [[], [("round", ())]])
        rules.append(EACH)
        rules[0] = CALL
        self.assertEqual([verdict.pairs() for verdict in desk.verdicts()], before)
        rules.clear()
        self.assertEqual([verdict.pairs() for verdict in desk.verdicts()], before)
        desk.verdicts().clear()
        self.assertEqual([verdict.pairs() for verdict in desk.attempt([])], before)

    def test_wrong_bounds(self):
        for value in BAD_BOUNDS:
            with self.assertRaises(InvalidBound) as caught:
                Desk(PART, [PASS], most=value, limit=0)
            self.assertIs(caught.exception.value, value)
            if value not in (501, 502):
                with self.assertRaises(InvalidBound) as caught:
                    Desk(PART, [PASS], limit=value)
                self.assertIs(caught.exception.value, value)
        with self.assertRaises(InvalidBound) as caught:
            Desk(PART, [PASS], limit=10001)
        self.assertEqual(caught.exception.value, 10001)
        for most, limit in ((1, 1), (500, 10000)):
            self.assertEqual(len(Desk(EMPTY, [PASS], most=most, limit=limit).verdicts()), 1)


class Edits(unittest.TestCase):

    def test_put_part(self):
        desk = Desk(PART, [PASS])
        self.assertIsNone(desk.put_part(STALE))
        self.assertIs(desk.current, STALE)
        self.assertEqual(len(desk), 1)
        same = Part(STALE.words, STALE.inputs, STALE.events, STALE.rows)
        desk.put_part(same)
        self.assertIs(desk.current, same)
        self.assertEqual(len(desk), 2)
        desk.put_part(same)
        self.assertEqual(len(desk), 3)
        desk.undo()
        desk.undo()
        self.assertIs(desk.current, STALE)

    def test_item_assignment(self):
        desk = Desk(PART, [PASS])
        desk[(1,)] = FULL_HANDLER
        self.assertEqual(desk.current, PART.with_row((1,), FULL_HANDLER))
        desk[(1, 0, 0)] = ("say", "x")
        self.assertEqual(desk.current.row_at((1,)), ("handler", "go", ("a",), (("say", "x"), TURN_A)))
        desk[(1, 0, 0)] = ("say", "x")
        self.assertEqual(len(desk), 3)
        self.assertEqual(PART.row_at((1,)), ("handler", "go", (), (SAY_A, TURN_A)))

    def test_the_row_at_a_path(self):
        for part in (PART, rich_part(), *ALL[:10]):
            desk = Desk(part, RULES)
            for path in part.row_paths():
                self.assertEqual(desk[path], part.row_at(path))
            for path in NO_PATHS + list(nested(20)) + [(99,), (0.0,), part.functions()]:
                with self.assertRaises(InvalidPath) as caught:
                    desk[path]
                self.assertIs(caught.exception.path, path)
            self.assertEqual(len(desk), 0)
        desk = Desk(PART, [PASS])
        desk[(1,)] = FULL_HANDLER
        self.assertEqual(desk[(1,)], FULL_HANDLER)
        desk.undo()
        self.assertEqual(desk[(1,)], PART.row_at((1,)))

    def test_undo_and_redo(self):
        desk = Desk(PART, [PASS])
        parts = [PART]
        for path, row in (((1,), FULL_HANDLER), ((2,), FULL_EFFECT), ((3,), ("show", "x"))):
            desk[path] = row
            parts.append(desk.current)
        self.assertEqual(len(desk), 3)
        for at in (2, 1, 0):
            self.assertIsNone(desk.undo())
            self.assertIs(desk.current, parts[at])
            self.assertEqual(len(desk), at)
        with self.assertRaises(NothingToUndo):
            desk.undo()
        self.assertIs(desk.current, PART)
        for at in (1, 2, 3):
            self.assertIsNone(desk.redo())
            self.assertIs(desk.current, parts[at])
            self.assertEqual(len(desk), at)
        with self.assertRaises(NothingToRedo):
            desk.redo()
        self.assertIs(desk.current, parts[3])

    def test_a_new_edit_behind_an_undo(self):
        desk = Desk(PART, [PASS])
        desk.put_part(STALE)
        desk.put_part(WAITS)
        desk.undo()
        desk.undo()
        desk.redo()
        desk.put_part(FULL)
        with self.assertRaises(NothingToRedo):
            desk.redo()
        self.assertEqual(len(desk), 2)
        desk.undo()
        self.assertIs(desk.current, STALE)
        desk.redo()
        self.assertIs(desk.current, FULL)
        desk.undo()
        desk[(0,)] = ("cell", "c", "on")
        with self.assertRaises(NothingToRedo):
            desk.redo()

    def test_edits_in_every_order(self):
        draw = random.Random(5)
        for count in range(40):
            desk = Desk(PART, [PASS])
            behind, here, ahead = [], PART, []
            for turn in range(40):
                do = draw.choice(["put", "put", "row", "undo", "undo", "redo", "wrong"])
                if do in ("put", "row"):
                    if do == "put":
                        new = draw.choice([STALE, PART, WAITS, EMPTY])
                        desk.put_part(new)
                    elif here == EMPTY:
                        continue
                    else:
                        new = here.with_row((0,), ("cell", here.row_at((0,))[1], draw.choice(["off", "on"])))
                        desk[(0,)] = new.row_at((0,))
                    behind, here, ahead = behind + [here], new, []
                elif do == "undo" and behind:
                    desk.undo()
                    behind, here, ahead = behind[:-1], behind[-1], [here] + ahead
                elif do == "redo" and ahead:
                    desk.redo()
                    behind, here, ahead = behind + [here], ahead[0], ahead[1:]
                else:
                    with self.assertRaises((NothingToUndo, NothingToRedo, InvalidPath)):
                        {"undo": desk.undo, "redo": desk.redo, "wrong": lambda: desk.__setitem__((99,), None)}[do]()
                self.assertEqual(desk.current, here)
                self.assertEqual(len(desk), len(behind))
            self.assertEqual(unwound(desk), (behind[::-1], ahead))

    def test_a_refused_edit_changes_nothing(self):
        desk = Desk(PART, [PASS])
        desk |= "stale"
        desk[(1,)] = FULL_HANDLER
        desk.put_part(STALE)
        desk.undo()
        before = state(desk), unwound(desk)
        for path in NO_PATHS + [(99,)] + list(nested(20)):
            with self.assertRaises(InvalidPath) as caught:
                desk[path] = ("show", "a")
            self.assertIs(caught.exception.path, path)
        for row in NO_ROWS + list(nested(20)) + [("say", "x"), ("cell", "a", "maybe")]:
            with self.assertRaises(InvalidPart) as caught:
                desk[(3,)] = row
            self.assertEqual((caught.exception.part, caught.exception.path), ("rows", (3,)))
        for path, row, expected in (((0,), ("cell", "x", "off"), ("names", (0,))),
                                    ((0,), ("cell", "c", "off"), ("names", (1, 0, 1))),
                                    ((2,), effect(*[SAY_X] * 9), ("many", (2, 0))),
                                    ((3,), ("cell", "a", "on"), ("names", (3,)))):
            with self.assertRaises(InvalidPart) as caught:
                desk[path] = row
            self.assertEqual((caught.exception.part, caught.exception.path), expected)
        self.assertEqual((state(desk), unwound(desk)), before)
        desk.redo()
        self.assertIs(desk.current, STALE)

    def test_refused_undo_and_redo_change_nothing(self):
        desk = Desk(PART, [PASS])
        desk.put_part(STALE)
        with self.assertRaises(NothingToRedo):
            desk.redo()
        self.assertEqual([len(desk), desk.current], [1, STALE])
        desk.undo()
        with self.assertRaises(NothingToUndo):
            desk.undo()
        desk.redo()
        self.assertIs(desk.current, STALE)

    def test_a_desk_is_not_iterated_over(self):
        with self.assertRaises(TypeError):
            list(Desk(PART, [PASS]))


class Watching(unittest.TestCase):

    def test_the_order_of_kinds(self):
        for order in (KINDS, KINDS[::-1], KINDS[3:] + KINDS[:3], KINDS[::3]):
            desk = Desk(PART, [PASS])
            for at, kind in enumerate(order):
                desk |= kind
                self.assertEqual(desk.watched, tuple([kind for kind in KINDS if kind in order[:at + 1]]))
                self.assertIsInstance(desk.watched, tuple)

    def test_the_desk_itself_watches(self):
        desk = Desk(PART, [PASS])
        same = desk
        desk |= "stale"
        self.assertIs(desk, same)
        self.assertEqual(same.watched, ("stale",))

    def test_a_kind_twice(self):
        desk = Desk(PART, [PASS])
        for kind in ("stale", "old", "stale", "stale", "old"):
            desk |= kind
        self.assertEqual(desk.watched, ("old", "stale"))

    def test_a_text_that_is_no_kind(self):
        desk = Desk(PART, [PASS])
        desk |= "stale"
        for kind in ("", "no", "Stale", "stal", "stale ", "stalee"):
            with self.assertRaises(InvalidKind) as caught:
                desk |= kind
            self.assertEqual(caught.exception.kind, kind)
            self.assertEqual(desk.watched, ("stale",))

    def test_watching_is_no_edit(self):
        desk = Desk(PART, [PASS])
        desk.put_part(STALE)
        desk.undo()
        desk |= "stale"
        self.assertEqual(len(desk), 0)
        desk.redo()
        desk |= "old"
        self.assertEqual([len(desk), desk.current], [1, STALE])
        desk.undo()
        self.assertEqual(desk.watched, ("old", "stale"))


class Verdicts(unittest.TestCase):

    def test_watched_kinds_alone(self):
        for number, part in enumerate(ALL[::2]):
            desk = Desk(part, RULES)
            kinds = random.Random(number).sample(KINDS, 4)
            for kind in kinds:
                desk |= kind
            found = desk.verdicts()
            self.assertEqual([verdict.pairs() for verdict in found],
                             [[fault for fault in Book(part, rule).faults() if fault[0] in kinds] for rule in RULES])
            for verdict in found:
                self.assertIsInstance(verdict, Verdict)

    def test_no_watched_kind(self):
        desk = Desk(STALE, RULES)
        self.assertEqual([verdict.pairs() for verdict in desk.verdicts()], [[]] * 4)
        self.assertEqual([bool(verdict) for verdict in desk.verdicts()], [False] * 4)

    def test_a_book_with_too_many_standings(self):
        for limit in (15, 16):
            desk = Desk(WAITS, [PASS, EACH], limit=limit)
            for count in range(2):
                found = desk.verdicts()
                if limit == 15:
                    self.assertEqual(found, [None, None])
                else:
                    self.assertNotIn(None, found)
                desk |= "stale"
        many = [len(Book(MIXED, rule)) for rule in RULES]
        desk = Desk(MIXED, RULES, limit=min(many))
        self.assertEqual([verdict is None for verdict in desk.verdicts()], [size > min(many) for size in many])

    def test_only_one_of_the_rules_has_too_many(self):
        part = NEVER.with_row((0,), ("cell", "c", "off"))
        part = Part(part.words, ("x",), (), (*part.rows, ("show", "x")))
        desk = Desk(part, [PASS, CALL], limit=1)
        desk |= "round"
        self.assertEqual([verdict and verdict.pairs() for verdict in desk.verdicts()], [None, [("round", ())]])

    def test_the_bound_of_calls(self):
        for most, expected in ((1, [("round", ())]), (2, [])):
            desk = Desk(BACK, [PASS], most=most)
            desk |= "round"
            self.assertEqual(desk.verdicts()[0].pairs(), expected)
        desk = Desk(FIFTY, [PASS])
        desk |= "round"
        self.assertEqual(desk.verdicts()[0].pairs(), [])
        desk.put_part(FIFTY_ONE)
        self.assertEqual(desk.verdicts()[0].pairs(), [("round", ())])

    def test_they_follow_the_part(self):
        desk = Desk(STALE, [PASS])
        desk |= "stale"
        self.assertEqual(desk.verdicts()[0].pairs(), [("stale", (1,))])
        desk.put_part(with_list(STALE, (1,), None))
        self.assertEqual(desk.verdicts()[0].pairs(), [])
        desk.undo()
        self.assertEqual(desk.verdicts()[0].pairs(), [("stale", (1,))])
        desk.redo()
        self.assertEqual(desk.verdicts()[0].pairs(), [])

    def test_new_lists(self):
        desk = Desk(STALE, RULES)
        desk.verdicts().clear()
        self.assertEqual(len(desk.verdicts()), 4)
        self.assertIsNot(desk.verdicts(), desk.verdicts())

    def test_parts_without_rows(self):
        desk = Desk(EMPTY, RULES)
        for kind in KINDS:
            desk |= kind
        self.assertEqual([verdict.pairs() for verdict in desk.verdicts() + desk.attempt([])], [[]] * 8)


class Attempts(unittest.TestCase):

    def desk(self):
        """A desk with two edits to undo and one to do again."""
        desk = Desk(TWO_INPUTS, [PASS, CALL])
        for part in (WAITS, PART, STALE):
            desk.put_part(part)
        desk.undo()
        desk |= "stale"
        desk |= "missed"
        return desk

    def test_attempts_that_end_well(self):
        edits = [((1,), FREE_HANDLER), ((1, 0, 1), ("say", "x")), ((2,), FULL_EFFECT), ((1, 0, 1), TURN_A)]
        for many in range(5):
            for make in (list, tuple):
                desk, other = self.desk(), self.desk()
                before = state(desk), unwound(desk)
                found = desk.attempt(make(edits[:many]))
                self.assertEqual((state(desk), unwound(desk)), before)
                for path, row in edits[:many]:
                    other[path] = row
                self.assertEqual([verdict.pairs() for verdict in found],
                                 [verdict.pairs() for verdict in other.verdicts()])
        self.assertEqual([verdict.pairs() for verdict in self.desk().attempt([])],
                         [[("stale", (1,)), ("missed", (2,))]] * 2)
        self.assertEqual([verdict.pairs() for verdict in self.desk().attempt(edits[:1] + edits[2:3])], [[], []])

    def test_attempts_of_which_an_edit_raises(self):
        good = [((1,), FREE_HANDLER), ((2,), FULL_EFFECT)]
        wrong = [((99,), ("show", "a")), (None, None), ([1], FREE_HANDLER), ((3,), None), ((3,), ("say", "a")),
                 ((0,), ("cell", "c", "off")), ((3,), ["show", "a"]), ((2, 0, 1), ("say", "a")),
                 ((True,), FREE_HANDLER)]
        for (path, row), at in itertools.product(wrong, range(3)):
            edits = good[:at] + [(path, row)] + good[at:]
            desk = self.desk()
            before = state(desk), unwound(desk)
            with self.assertRaises((InvalidPath, InvalidPart)) as caught:
                desk.attempt(edits)
            expected = self.error_of(good[:at], path, row)
            self.assertEqual((caught.exception.__class__, vars(caught.exception)), expected)
            self.assertEqual((state(desk), unwound(desk)), before)
            desk.redo()
            self.assertIs(desk.current, STALE)

    def error_of(self, edits, path, row):
        """What the edit raises on a desk that has done the edits ahead of it."""
        desk = self.desk()
        for ahead, other in edits:
            desk[ahead] = other
        try:
            desk[path] = row
        except (InvalidPath, InvalidPart) as error:
            return (error.__class__, vars(error))
        return None

    def test_the_first_edit_that_fails(self):
        with self.assertRaises(InvalidPath) as caught:
            self.desk().attempt([((1,), FREE_HANDLER), ((98,), None), ((99,), None)])
        self.assertEqual(caught.exception.path, (98,))

    def test_an_edit_goes_on_from_the_one_before(self):
        desk = self.desk()
        # The row at this path is there only behind the first edit.
        self.assertEqual(len(desk.attempt([((2,), effect(SAY_A, SAY_A, SAY_A)), ((2, 0, 2), SAY_X)])), 2)
        with self.assertRaises(InvalidPath):
            desk.attempt([((2, 0, 2), SAY_X)])

    def test_too_many_standings(self):
        desk = Desk(STALE, [PASS], limit=2)
        desk |= "stale"
        grow = [((2,), ("kept", "k", "c", SWAP, ())), ((1,), ("handler", "go", None,
                                                              (("turn", "c", SWAP), ("later", ()))))]
        self.assertEqual(desk.attempt(grow), [None])
        self.assertEqual(desk.verdicts()[0].pairs(), [("stale", (1,))])

    def test_edits_stay(self):
        edits = [((1,), FREE_HANDLER)]
        self.desk().attempt(edits)
        self.assertEqual(edits, [((1,), FREE_HANDLER)])


class SideBySide(unittest.TestCase):

    def test_two_desks(self):
        rules = [PASS, CALL]
        first, second = Desk(PART, rules), Desk(PART, rules)
        first[(1,)] = FREE_HANDLER
        first |= "stale"
        self.assertEqual([second.current, len(second), second.watched], [PART, 0, ()])
        second.put_part(STALE)
        second |= "old"
        first.undo()
        self.assertEqual([first.current, len(first), first.watched, second.current, len(second), second.watched],
                         [PART, 0, ("stale",), STALE, 1, ("old",)])
        with self.assertRaises(NothingToRedo):
            second.redo()
        first.redo()
        self.assertEqual(first[(1,)], FREE_HANDLER)

    def test_the_limit_that_is_left_out(self):
        desk = Desk(PART, [Rule("each", "call")])
        self.assertEqual([verdict is None for verdict in desk.verdicts()], [False])
        turns = [("turn", cell, ("q", "r", "s", "p")) for cell in ("a", "b", "c")]
        many = Part(("p", "q", "r", "s"), ("x", "y"), ("one", "two"), (
            *[("cell", cell, "p") for cell in ("a", "b", "c")], ("box", "m", "p"),
            ("handler", "one", None, (turns[0], ("write", "m", "x"))),
            ("handler", "two", None, (turns[1], ("set", "c", "y")))))
        with self.assertRaises(LimitExceeded):
            Book(many, PASS)
        self.assertEqual(Desk(many, all_rules()[:1]).verdicts(), [None])
        self.assertNotEqual(Desk(many, all_rules()[:1], limit=5000).verdicts(), [None])


if __name__ == "__main__":
    unittest.main()
