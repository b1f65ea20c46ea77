"""Point 48, as far as it speaks of one part and its books."""

import unittest

from calledanew.books import Book
from calledanew.errors import LimitExceeded
from calledanew.lists import list_at, missing_slots, surplus_slots, with_list
from deeds import CALL, EACH, EACH_CALL, PASS, RULES, SWAP, screen
from plain import runs_of
from random_parts import parts_of
from samples import effect, either, handler, later
from shelves import CELL, NAMED, TURN_A
from test_books import length_for
from test_facts import effect_rows, ends_with_its_change, function_rows, ways

STEADY = parts_of(51, 120, steady=True) + [part for part in NAMED.values() if part.is_steady()]
ANY = parts_of(52, 120) + list(NAMED.values())
FAULT_OF = {"kept": "old", "effect": "missed", "handler": "stale"}


def book_of(part, rule):
    """The book, or None if it would have too many standings for these tests."""
    try:
        return Book(part, rule, limit=150)
    except LimitExceeded:
        return None


def books_of(parts):
    """Go through the parts with their books under each rule."""
    for part in parts:
        for rule in RULES:
            book = book_of(part, rule)
            if book is not None:
                yield part, rule, book


def list_rows(part):
    return [(path, part.row_at(path)[0]) for path in part.hooks() if part.row_at(path)[0] in FAULT_OF]


def are_alike(first, second):
    """Tell whether two books show and say the same on all ways, side by side."""
    pairs = []
    for (words, left), (other, right) in zip(first.starts(), second.starts()):
        if (left is None) != (right is None) or words != other:
            return False
        if left is not None and (left, right) not in pairs:
            pairs.append((left, right))
    for left, right in pairs:
        if left[4] != right[4]:
            return False
        for event in first.moves():
            ends = (first.follow(left, event), second.follow(right, event))
            if (ends[0] is None) != (ends[1] is None):
                return False
            if ends[0] is not None:
                if ends[0][1] != ends[1][1]:
                    return False
                if (ends[0][0], ends[1][0]) not in pairs:
                    pairs.append((ends[0][0], ends[1][0]))
    return True


def standings_of(book):
    return [(standing, book.least_run(standing)) for standing in book.standings()]


class OfSteadyParts(unittest.TestCase):

    def test_1_no_slip_mixed_or_crossed(self):
        for part, rule, book in books_of(STEADY):
            for kind in ("slip", "mixed", "crossed"):
                self.assertTrue(book.is_free(kind))

    def test_2_rows_at_which_no_slot_is_missing(self):
        counts = {}
        for part, rule, book in books_of(STEADY):
            found = book.faults()
            for path, kind in list_rows(part):
                fault = (FAULT_OF[kind], path)
                whole = missing_slots(part, path) == ()
                counts[(kind, whole, fault in found)] = counts.get((kind, whole, fault in found), 0) + 1
                if whole:
                    self.assertNotIn(fault, found)
        for kind in FAULT_OF:
            self.assertGreater(min(counts[(kind, True, False)], counts[(kind, False, True)]), 5, counts)

    def test_3_effects_without_surplus_slots(self):
        counts = [0, 0]
        for part, rule, book in books_of(STEADY):
            found = book.faults()
            for path, kind in list_rows(part):
                if kind == "effect" and list_at(part, path) is not None:
                    if surplus_slots(part, path) == ():
                        counts[0] += 1
                        self.assertNotIn(("needless", path), found)
                    else:
                        counts[1] += ("needless", path) in found
        self.assertGreater(min(counts), 5, counts)

    def test_5_handlers_whose_functions_are_made_anew_at_each_call(self):
        count = 0
        for part, rule, book in books_of(STEADY):
            for path, kind in list_rows(part):
                if kind == "handler" and list_at(part, path) is not None and missing_slots(part, path) == ():
                    count += 1
                    other = with_list(part, path, None)
                    self.assertTrue(are_alike(book, Book(other, rule)))
                    self.assertNotIn(("stale", path), Book(other, rule).faults())
        self.assertGreater(count, 50)

    def test_5_a_missing_slot_may_make_a_difference(self):
        part = screen(CELL, handler(("say", "a"), TURN_A, slots=()))
        for rule in RULES:
            self.assertFalse(are_alike(Book(part, rule), Book(with_list(part, (1,), None), rule)))

    def test_6_pass_and_call(self):
        counts = [0, 0]
        for part in STEADY:
            if any(row[1] is None for row in effect_rows(part)):
                continue
            for first, second in ((PASS, CALL), (EACH, EACH_CALL)):
                book, other = book_of(part, first), book_of(part, second)
                if other is not None and other.is_free("round"):
                    counts[0] += 1
                    self.assertEqual(standings_of(book), standings_of(other))
                    self.assertTrue(are_alike(book, other))
                    counts[1] += len(book) > 3
        self.assertGreater(min(counts), 20, counts)

    def test_6_effects_without_a_list(self):
        part = screen(CELL, effect(("say", "x"), slots=None), handler(("set", "a", "a")))
        self.assertFalse(are_alike(Book(part, PASS), Book(part, CALL)))
        part = screen(CELL, ("box", "b", "off"), effect(("fetch", "b", "y"), ("map", "y", "y", SWAP),
                                                        ("write", "b", "y"),
                                                        ("say", "y"), slots=None), handler(("set", "a", "a")))
        self.assertNotEqual(standings_of(Book(part, PASS)), standings_of(Book(part, CALL)))


class OfEveryPart(unittest.TestCase):

    def test_functions_that_end_with_their_only_change(self):
        count = 0
        for part in ANY + STEADY:
            rows = [part.row_at(path[:-1])[-1] for path in part.functions()
                    if part.row_at(path[:-1])[0] in ("handler", "later")]
            once = all(way.count("set") + way.count("turn") < 2 for body in rows for way in ways(body))
            if once and all(ends_with_its_change(body) for body in rows):
                for first, second in ((PASS, EACH), (CALL, EACH_CALL)):
                    book, other = book_of(part, first), book_of(part, second)
                    if book is not None:
                        count += any(kind in ("set", "turn") for body in rows for way in ways(body) for kind in way)
                        self.assertEqual(standings_of(book), standings_of(other))
                        self.assertTrue(are_alike(book, other))
        self.assertGreater(count, 20)

    def test_a_change_at_the_end_of_each_way(self):
        part = screen(CELL, ("cell", "c", "off"), handler(("say", "a"), either(
            either(TURN_A, other=(("set", "c", "x"),), slot="a"), other=(("turn", "c", SWAP),))), ("show", "a"),
                      ("show", "c"),
            ("handler", "up", (), (later(("say", "c"), either(TURN_A, slot="c")),)), events=("go", "up"))
        for first, second in ((PASS, EACH), (CALL, EACH_CALL)):
            self.assertEqual(standings_of(Book(part, first)), standings_of(Book(part, second)))
            self.assertTrue(are_alike(Book(part, first), Book(part, second)))

    def test_two_changes_or_a_row_behind_one_may_make_a_difference(self):
        for body in ((TURN_A, TURN_A), (TURN_A, ("say", "x"), TURN_A)):
            part = screen(CELL, handler(*body), effect(("say", "a"), slots=("a",)))
            self.assertFalse(are_alike(Book(part, PASS), Book(part, EACH)))
        # The write ahead of the call is seen by the effect, the one behind it is not.
        part = screen(CELL, ("box", "b", "off"), handler(TURN_A, ("write", "b", "a")),
                      effect(("fetch", "b", "y"), ("say", "y"), slots=("a",)))
        self.assertFalse(are_alike(Book(part, PASS), Book(part, EACH)))

    def test_parts_without_set_and_turn_rows(self):
        count = 0
        for part in ANY + STEADY + [screen(handler(later(("say", "x"))), effect(("say", "x"), slots=None))]:
            functions = [row for path in part.functions() for row in function_rows(part.row_at(path[:-1])[-1])]
            functions += [row for body in effect_rows(part) for row in function_rows(body[2])]
            if not any(row[0] in ("set", "turn") for row in functions):
                count += 1
                for rule in RULES:
                    book = book_of(part, rule)
                    if book is not None:
                        self.assertTrue(book.is_free("round"))
                        self.assertTrue(Book(part, rule, most=1).is_free("round"))
                    for run, deed, found, behind in runs_of(part, rule, min(2, length_for(part))):
                        self.assertTrue(deed is None or deed.calls <= 1)
        self.assertGreater(count, 15)


class ThroughLists(unittest.TestCase):
    """Points 20, 24 and 25: what lists do to the books of a part."""

    def test_a_complete_steady_part_has_no_old_stale_or_missed(self):
        for part, rule, book in books_of(STEADY):
            for path, kind in list_rows(part):
                if missing_slots(part, path) and len(missing_slots(part, path) + (list_at(part, path) or ())) <= 4:
                    other = with_list(part, path, list_at(part, path) + missing_slots(part, path))
                    changed = book_of(other, rule)
                    if changed is not None:
                        self.assertNotIn((FAULT_OF[kind], path), changed.faults())

    def test_same_call_follows_sets_of_the_same_word(self):
        part = screen(CELL, handler(("set", "a", "a")), effect(("say", "x"), slots=None))
        self.assertEqual([Book(part, rule).follow(Book(part, rule).standings()[0],
                                                  ("press", "go"))[1] for rule in RULES],
                         [(), ("off",), (), ("off",)])
        self.assertEqual([Book(part, rule).follow(Book(part, rule).standings()[0],
                                                  ("hand", "x", "off"))[1] for rule in RULES],
                         [(), ("off",), (), ("off",)])


if __name__ == "__main__":
    unittest.main()
