"""Point 48, as far as it speaks of parts that are alike and of books with the same least runs."""

import unittest

from calledanew.alike import alike, difference
from calledanew.books import Book
from calledanew.counting import most_calls
from calledanew.errors import LimitExceeded
from calledanew.lists import list_at, missing_slots, with_list
from calledanew.parts import Part
from deeds import CALL, EACH, EACH_CALL, GO, PASS, RULES, SAME, SWAP, screen
from random_parts import parts_of
from samples import effect, either, handler, later
from shelves import CELL, NAMED, SAY_A, SAY_X, TURN_A
from test_book_facts import ANY, STEADY, book_of, list_rows, standings_of
from test_facts import effect_rows, ends_with_its_change, function_rows, ways

MORE = STEADY + parts_of(81, 120, steady=True)
BOTH = ((PASS, EACH), (CALL, EACH_CALL))


def compared(first, second):
    """Whether the two are alike, None if there are too many pairs of standings for these tests."""
    try:
        return alike(first, second, limit=150)
    except LimitExceeded:
        return None


class OfSteadyParts(unittest.TestCase):

    def test_4_kept_rows_whose_list_contains_from_and_map_rows(self):
        counts = [0, 0]
        for part in MORE:
            for path, kind in list_rows(part):
                row = part.row_at(path)
                if kind == "kept":
                    contains = row[2] in row[4]
                    other = part if contains else with_list(part, path, row[4][:3] + (row[2],))
                    mapped = other.with_row(path, ("map",) + row[1:4])
                    for rule in RULES:
                        counts[contains] += 1
                        self.assertIn(compared((other, rule), (mapped, rule)), (True, None))
        self.assertGreater(min(counts), 30, counts)

    def test_4_without_from_in_the_list(self):
        part = screen(("kept", "k", "x", SWAP, ()), ("show", "k"))
        for rule in RULES:
            self.assertEqual(difference((part, rule), (screen(("map", "k", "x", SWAP), ("show", "k")), rule)),
                             (("off",), (("hand", "x", "on"),)))

    def test_5_handlers_that_get_none(self):
        count = 0
        for part in MORE:
            for path, kind in list_rows(part):
                if kind == "handler" and list_at(part, path) is not None:
                    whole = list_at(part, path) if missing_slots(part, path) == () else part.held(path + (0,))
                    if len(whole) <= 4:
                        full = with_list(part, path, whole)
                        for rule in RULES:
                            count += 1
                            self.assertIn(compared((full, rule), (with_list(full, path, None), rule)), (True, None))
        self.assertGreater(count, 200)

    def test_6_pass_and_call(self):
        count = 0
        for part in MORE:
            if not any(row[1] is None for row in effect_rows(part)):
                for first, second in ((PASS, CALL), (EACH, EACH_CALL)):
                    book = book_of(part, second)
                    if book is not None and book.is_free("round"):
                        count += 1
                        self.assertTrue(alike((part, first), (part, second)))
                        self.assertTrue(alike((part, first), (part, second), says_only=True))
                        self.assertEqual(standings_of(Book(part, first)), standings_of(book))
        self.assertGreater(count, 100)

    def test_6_with_the_fault_round(self):
        # A set of the same word never ends under "call" alone.
        part = screen(CELL, effect(("set", "a", "a"), slots=("x",)), effect(("set", "a", "a"), slots=("a",)))
        self.assertTrue(alike((part, PASS), (part, CALL)))
        part = screen(CELL, effect(("set", "a", "a"), slots=None))
        self.assertEqual(difference((part, PASS), (part, CALL)), (("off",), ()))

    def test_6_handlers_that_set_the_same_word(self):
        part = screen(CELL, handler(("set", "a", "a"), ("turn", "a", SAME)), effect(SAY_A, slots=("a",)), ("show", "a"))
        for first, second in ((PASS, CALL), (EACH, EACH_CALL)):
            self.assertTrue(alike((part, first), (part, second)))
            self.assertEqual(standings_of(Book(part, first)), standings_of(Book(part, second)))
            self.assertNotEqual(most_calls(Book(part, first))[1], None)


class OfEveryPart(unittest.TestCase):

    def test_rows_of_set_and_turn_at_the_end_of_each_way(self):
        count = 0
        for part in ANY + MORE:
            rows = [part.row_at(path[:-1])[-1] for path in part.functions()
                    if part.row_at(path[:-1])[0] in ("handler", "later")]
            once = all(way.count("set") + way.count("turn") < 2 for body in rows for way in ways(body))
            if once and all(ends_with_its_change(body) for body in rows):
                for first, second in BOTH:
                    book, other = book_of(part, first), book_of(part, second)
                    if book is not None:
                        count += 1
                        self.assertTrue(alike((part, first), (part, second)))
                        self.assertEqual(standings_of(book), standings_of(other))
                        self.assertEqual(book.faults(), other.faults())
        self.assertGreater(count, 100)

    def test_by_hand(self):
        part = screen(CELL, ("cell", "c", "off"), either(effect(SAY_A, slots=("a",)), other=(effect(SAY_X),)),
                      handler(SAY_A, either(TURN_A, other=(either(("set", "c", "a"), slot="a"),))),
                      ("handler", "up", (), (later(SAY_A, ("turn", "c", SWAP)), SAY_X)), ("show", "a"), ("show", "c"),
                      events=("go", "up"))
        for first, second in BOTH:
            self.assertTrue(alike((part, first), (part, second)))
            self.assertEqual(standings_of(Book(part, first)), standings_of(Book(part, second)))

    def test_a_row_behind_a_turn(self):
        part = screen(CELL, handler(TURN_A, SAY_A), effect(SAY_A, slots=("a",)), inputs=())
        for first, second in BOTH:
            self.assertEqual(difference((part, first), (part, second)), ((), (GO,)))

    def test_parts_without_set_and_turn_rows(self):
        count = 0
        for part in ANY + MORE:
            if not any(part.row_at(path)[0] in ("set", "turn") for path in part.row_paths()):
                for rule in RULES:
                    book = book_of(part, rule)
                    if book is not None:
                        count += 1
                        self.assertTrue(book.is_free("round"))
                        self.assertIn(most_calls(book)[0], (0, 1))
                        self.assertEqual(most_calls(book), most_calls(Book(part, rule, most=1)))
        self.assertGreater(count, 60)

    def test_all_rows_are_looked_at(self):
        # A turn that stands in a later row inside an effect is a turn as well.
        part = screen(CELL, effect(later(TURN_A)))
        self.assertTrue(any(row[0] == "turn" for row in function_rows(part.row_at((1,))[2])))
        self.assertEqual(most_calls(Book(part, PASS)), (1, (("off",), ())))
        self.assertIsInstance(part, Part)
        self.assertGreater(len(NAMED), 10)


if __name__ == "__main__":
    unittest.main()
