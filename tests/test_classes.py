"""Point 47: standings of one book that are alike."""

import itertools
import unittest

from calledanew.alike import classes, parting
from calledanew.books import Book
from calledanew.errors import NoStanding
from calledanew.parts import Part
from deeds import CALL, GO, ON, PASS, RULES, TICK, screen
from samples import handler, later
from shelves import ALL, BOXES, CELL, EMPTY, FULL, NAMED, NEVER, NO_ROWS, SAY_A, STALE, TURN_A, TWO_INPUTS, WAITS
from test_books import ANY_VALUES

ROUND = ("q", "r", "s", "p")


def plain_parting(book, first, second):
    """The least tuple of events that shows a difference: all of them, those with fewer events first."""
    if first[4] != second[4]:
        return ()
    rows, seen = [(first, second, ())], [(first, second)]
    for left, right, events in rows:
        for event in book.moves():
            ends = (book.follow(left, event), book.follow(right, event))
            if (ends[0] is None) != (ends[1] is None):
                return events + (event,)
            if ends[0] is not None:
                if ends[0][1] != ends[1][1] or ends[0][0][4] != ends[1][0][4]:
                    return events + (event,)
                if (ends[0][0], ends[1][0]) not in seen:
                    seen.append((ends[0][0], ends[1][0]))
                    rows.append((ends[0][0], ends[1][0], events + (event,)))
    return None


def small_books():
    for number, part in enumerate(ALL):
        book = Book(part, RULES[number % 4])
        if len(book) <= 20:
            yield book


class Parting(unittest.TestCase):

    def test_each_two_standings_of_small_books(self):
        sizes = {}
        for book in small_books():
            for first, second in itertools.product(book.standings(), repeat=2):
                found = parting(book, first, second)
                self.assertEqual(found, plain_parting(book, first, second))
                size = None if found is None else len(found)
                sizes[size] = sizes.get(size, 0) + 1
        self.assertTrue(all(sizes[size] > 5 for size in (None, 0, 1, 2)), sizes)

    def test_different_shown_words(self):
        book = Book(STALE, PASS)
        first, second = book.standings()
        self.assertEqual([parting(book, first, second), parting(book, second, first)], [(), ()])

    def test_equal_standings(self):
        for book in small_books():
            for standing in book.standings():
                self.assertIsNone(parting(book, standing, standing))

    def test_two_that_are_alike(self):
        # The cell is turned, but nothing shows it.
        book = Book(screen(CELL, handler(TURN_A), ("show", "x")), PASS)
        first, second = [standing for standing in book.standings() if standing[0][0] == "off"]
        self.assertIsNone(parting(book, first, second))
        self.assertEqual(parting(book, first, book.standings()[1]), ())

    def test_the_fewest_events_and_then_the_first_ones(self):
        part = screen(("cell", "a", "p"), ("handler", "up", None, (("turn", "a", ROUND),)),
                      handler(("turn", "a", ROUND)), ("if", "a", "s", (("show", "a"),), ()), inputs=(),
                      events=("go", "up"), words=("p", "q", "r", "s"))
        book = Book(part, PASS)
        first, second, third, fourth = book.standings()
        self.assertEqual([parting(book, first, second), parting(book, second, third), parting(book, first, third),
                          parting(book, first, fourth)], [(GO, GO), (GO,), (GO,), ()])

    def test_refused_in_one_of_them(self):
        book = Book(FULL, PASS)
        found = {parting(book, first, second) for first in book.standings() for second in book.standings()}
        self.assertIn((GO,), found)

    def test_what_is_said_counts(self):
        book = Book(screen(CELL, handler(TURN_A, SAY_A), inputs=()), PASS)
        first, second = book.standings()
        self.assertEqual(parting(book, first, second), (GO,))
        book = Book(screen(CELL, handler(TURN_A, later(SAY_A)), inputs=()), PASS)
        found = [parting(book, first, second) for first, second in itertools.combinations(book.standings(), 2)]
        self.assertIn((TICK,), found)
        self.assertIn((GO, TICK), found)

    def test_values_that_are_no_standing_of_the_book(self):
        for part in (STALE, WAITS):
            book = Book(part, PASS)
            standing = book.standings()[0]
            other = (("on",) * len(standing[0]),) + standing[1:4] + (("on",) * 3,)
            for value in ANY_VALUES + [other, list(standing), Book(BOXES, PASS).standings()[0]]:
                for pair in ((standing, value), (value, standing), (value, value)):
                    with self.assertRaises(NoStanding):
                        parting(book, *pair)
        with self.assertRaises(NoStanding):
            parting(Book(NEVER, CALL), Book(NEVER, PASS).standings()[0], None)


class Classes(unittest.TestCase):

    def test_against_parting_of_each_two(self):
        sizes = {}
        for book in small_books():
            standings = book.standings()
            found = classes(book)
            expected = []
            for at, standing in enumerate(standings):
                for group in expected:
                    if plain_parting(book, standings[group[0]], standing) is None:
                        group.append(at)
                        break
                else:
                    expected.append([at])
            self.assertEqual(found, expected)
            for group in found:
                sizes[len(group)] = sizes.get(len(group), 0) + 1
        self.assertTrue(all(sizes[size] > 3 for size in (1, 2, 3, 4)), sizes)

    def test_one_class(self):
        for part in (NO_ROWS, screen(CELL, handler(TURN_A)), EMPTY):
            book = Book(part, PASS)
            self.assertEqual(classes(book), [list(range(len(book)))])

    def test_a_class_for_each_standing(self):
        part = Part(("p", "q", "r", "s"), ("x",), (), (("show", "x"),))
        self.assertEqual(classes(Book(part, PASS)), [[0], [1], [2], [3]])
        self.assertEqual(classes(Book(STALE, PASS)), [[0], [1]])

    def test_without_standings(self):
        self.assertEqual(classes(Book(NEVER, CALL)), [])

    def test_their_order(self):
        # The cell goes p, q, r, s: p and r are alike, and q and s.
        part = screen(("cell", "a", "p"), handler(("turn", "a", ROUND)), ("map", "b", "a", ("p", "q", "p", "q")),
                      ("show", "b"), inputs=(), words=("p", "q", "r", "s"))
        self.assertEqual(classes(Book(part, PASS)), [[0, 2], [1, 3]])
        for book in small_books():
            found = classes(book)
            self.assertEqual(found, sorted([sorted(group) for group in found]))
            self.assertEqual(sorted(sum(found, [])), list(range(len(book))))

    def test_words_are_told_apart_only_by_long_ways(self):
        # Sixteen standings of two digits, of which only the last one is shown: its class is found step by step.
        part = Part(("p", "q", "r", "s"), (), ("go",), (
            ("cell", "a", "p"), ("cell", "b", "p"),
            handler(("turn", "a", ROUND), ("if", "a", "s", (("turn", "b", ROUND),), ())),
            ("if", "a", "s", (("if", "b", "s", (("show", "a"),), ()),), ())))
        book = Book(part, PASS)
        self.assertEqual(classes(book), [[at] for at in range(16)])
        standings = book.standings()
        self.assertEqual(parting(book, standings[0], standings[1]), (GO,) * 14)

    def test_new_lists_each_time(self):
        book = Book(TWO_INPUTS, PASS)
        expected = classes(book)
        for group in classes(book):
            group.clear()
        classes(book).clear()
        self.assertEqual(classes(book), expected)
        self.assertEqual(classes(Book(TWO_INPUTS, PASS)), expected)

    def test_a_book_answers_alike_behind_it(self):
        for part in NAMED.values():
            book, other = Book(part, PASS), Book(part, PASS)
            classes(book)
            for first in book.standings()[:4]:
                for second in book.standings()[:4]:
                    parting(book, first, second)
            self.assertEqual([book.standings(), book.faults(), len(book)],
                             [other.standings(), other.faults(), len(other)])
        book = Book(screen(CELL, handler(TURN_A), ("show", "x")), PASS)
        self.assertEqual(book.follow(book.standings()[0], ON)[1], ())


if __name__ == "__main__":
    unittest.main()
