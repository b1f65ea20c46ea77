"""Point 49: counts over books and runs."""

import itertools
import unittest

from calledanew.books import Book
from calledanew.counting import costs, most_calls, most_runs, never_done
from calledanew.errors import InvalidBound, InvalidEvent, InvalidStart, NoFunction
from calledanew.parts import Part
from calledanew.standings import all_events
from deeds import BAD_BOUNDS, CALL, EACH, GO, ON, PASS, RULES, SWAP, TICK, WORDS, screen
from plain import PlainBook, replayed, starts_of
from samples import NO_PATHS, effect, either, handler, later, nested
from shelves import (ALL, BACK, BOX, BOXES, CELL, COUNTS, EMPTY, FIFTY, FIFTY_ONE, FULL, NAMED, NEVER, NO_EVENTS,
                     NO_INPUTS,
                     NO_ROWS, SAY_A, SAY_X, SLIPS, STALE, TURN_A, TWO_INPUTS, WAITS)
from test_books import length_for

# All its starts slip, so there is no standing and no fault "round".
ALL_SLIP = screen(CELL, effect(TURN_A), either(BOX, slot="a"))


def cases():
    for number, part in enumerate(ALL):
        yield part, RULES[number % 4], 50
        yield part, RULES[(number + 2) % 4], 2


def peak(runs, book):
    """The greatest count among the first runs of each count, as the document gives it."""
    if not book.is_free("round"):
        return None
    if not runs:
        return (0, None)
    return (max(runs), runs[max(runs)])


class Most(unittest.TestCase):

    def test_against_all_runs_up_to_some_length(self):
        seen = {}
        for part, rule, most in cases():
            book = Book(part, rule, most=most)
            length = length_for(part, 600)
            plain = PlainBook(part, rule, length, most)
            for found, runs in [(most_calls(book), plain.calls)] + [
                    (most_runs(book, path), plain.functions.get(path, {})) for path in part.functions()]:
                if found is None or found[1] is None or len(found[1][1]) <= length:
                    self.assertEqual(found, peak(runs, book))
                elif runs:
                    self.assertLess(max(runs), found[0])
                key = None if found is None else min(found[0], 3)
                seen[key] = seen.get(key, 0) + 1
        self.assertTrue(all(seen[key] > 3 for key in (None, 0, 1, 2, 3)), seen)

    def test_least_runs_done_again(self):
        for part, rule, most in cases():
            book = Book(part, rule, most=most)
            for path in [None] + part.functions():
                found = most_calls(book) if path is None else most_runs(book, path)
                if found is not None and found[1] is not None:
                    deed = replayed(part, rule, found[1], most)[0][-1]
                    runs = [item[1] for item in deed.trace if item[0] == "run"]
                    self.assertEqual(found[0], deed.calls if path is None else runs.count(path))

    def test_the_example(self):
        book = Book(STALE, PASS)
        self.assertEqual([most_calls(book), most_runs(book, (1, 0))], [(1, ((), ())), (1, ((), (GO,)))])

    def test_counts_of_none(self):
        book = Book(TWO_INPUTS, PASS)
        self.assertEqual(most_runs(Book(NO_INPUTS, PASS), (2, 1)), (0, ((), ())))
        part = screen(effect(SAY_X, clean=(SAY_X,)), handler(later()))
        for path, expected in (((0, 0), (1, (("off",), ()))), ((0, 1), (0, (("off",), ()))),
                               ((1, 0), (1, (("off",), (GO,)))),
                               ((1, 0, 0, 0), (1, (("off",), (GO, TICK))))):
            self.assertEqual(most_runs(Book(part, PASS), path), expected)
        self.assertEqual(most_runs(book, (2, 0)), (1, (("off", "off"), (GO,))))

    def test_refused_starts_and_events_count_for_nothing(self):
        # With x on the start would run the function, but it slips; with x off it is never run.
        part = screen(either(("put", "y", "on"), slot="x"), CELL, effect(either(TURN_A, SAY_A, slot="y")),
                      either(effect(SAY_X), slot="a"))
        book = Book(part, PASS)
        self.assertEqual([words for words, standing in book.starts() if standing is None], [("on",)])
        self.assertEqual(most_runs(book, (3, 0, 0, 0)), (0, (("off",), ())))
        # The first start is refused: the least run with a count of 0 is the second one.
        part = screen(CELL, effect(either(other=(TURN_A,))), either(BOX, slot="a"), handler())
        book = Book(part, PASS)
        self.assertEqual([standing is None for words, standing in book.starts()], [True, False])
        self.assertEqual([most_runs(book, (1, 1)), most_runs(book, (3, 0)), most_calls(book)],
                         [(0, (("on",), ())), (1, (("on",), (GO,))), (1, (("on",), ()))])
        # The press would run the handler, but it is refused.
        part = screen(handler(*[later(SAY_X)] * 4))
        self.assertEqual(most_runs(Book(part, PASS), (0, 0)), (0, (("off",), ())))

    def test_the_least_of_those_with_the_same_count(self):
        book = Book(COUNTS, PASS)
        self.assertEqual(most_calls(book), (4, (("p",), ())))
        book = Book(BACK, PASS)
        self.assertEqual(most_calls(book), (2, (("off",), (GO,))))
        self.assertEqual(most_runs(book, (2, 0)), (2, (("off",), (GO,))))

    def test_each_set_calls_by_itself(self):
        part = screen(CELL, handler(TURN_A, TURN_A, TURN_A))
        self.assertEqual([most_calls(Book(part, rule))[0] for rule in RULES], [1, 1, 3, 3])

    def test_calls_that_never_end(self):
        for part, rule, most in ((NEVER, CALL, 50), (BACK, PASS, 1), (COUNTS, PASS, 3), (FIFTY_ONE, PASS, 50)):
            book = Book(part, rule, most=most)
            self.assertIsNone(most_calls(book))
            for path in part.functions():
                self.assertIsNone(most_runs(book, path))
        self.assertEqual(most_calls(Book(FIFTY, PASS)), (50, ((), ())))

    def test_without_standings(self):
        book = Book(ALL_SLIP, PASS)
        self.assertEqual([len(book), most_calls(book), most_runs(book, (1, 0)), most_runs(book, (1, 1))],
                         [0, (0, None), (0, None), (0, None)])

    def test_parts_without_rows_inputs_or_events(self):
        self.assertEqual(most_calls(Book(EMPTY, PASS)), (1, ((), ())))
        self.assertEqual(most_calls(Book(NO_ROWS, CALL)), (1, (("off", "off"), ())))
        # In the start the body turns its cell, so that a second call follows.
        self.assertEqual(most_calls(Book(NO_EVENTS, PASS)), (2, (("off",), ())))

    def test_values_that_are_the_path_of_no_function(self):
        books = [Book(STALE, PASS), Book(NEVER, CALL), Book(ALL_SLIP, PASS), Book(EMPTY, PASS),
                 Book(BACK, PASS, most=1)]
        paths = [(0,), (1,), (2,), (1, 2), (True, False), (True, 0), (1, False), [1, 0], (1, 0, 0), (1.0, 0.0), "10"]
        for book, path in itertools.product(books, NO_PATHS + list(nested(20)) + paths):
            with self.assertRaises(NoFunction) as caught:
                most_runs(book, path)
            self.assertIs(caught.exception.path, path)
        for part in ALL:
            for path in part.row_paths():
                with self.assertRaises(NoFunction):
                    most_runs(Book(part, PASS), path)
                break


class NeverDone(unittest.TestCase):

    def test_against_all_runs(self):
        counts = [0, 0]
        for part, rule, most in cases():
            book = Book(part, rule, most=most)
            length = length_for(part, 600)
            plain = PlainBook(part, rule, length, most)
            found = never_done(book)
            left = [path for path in part.row_paths() if path not in plain.rows]
            deepest = max([len(book.least_run(standing)[1]) for standing in book.standings()] or [0])
            if deepest < length:
                self.assertEqual(found, left)
                counts[len(found) > 0] += 1
            else:
                self.assertLessEqual(set(found), set(left))
        self.assertGreater(min(counts), 10, counts)

    def test_halves_of_if_rows(self):
        part = screen(("if", "y", "on", (("show", "x"), either(("show", "y"))), (("show", "y"),)),
                      handler(("put", "y", "on"), either(SAY_X, other=(SAY_A, either()), slot="y")))
        self.assertEqual(never_done(Book(part, PASS)), [(0, 0, 0), (0, 0, 1), (0, 0, 1, 0, 0), (1, 0, 1, 1, 0),
                                                        (1, 0, 1, 1, 1)])

    def test_functions_that_are_never_run(self):
        part = screen(effect(SAY_X, clean=(SAY_X, either(SAY_A))), handler(SAY_X), handler(SAY_X, later(SAY_X)))
        self.assertEqual(never_done(Book(part, PASS)), [(0, 1, 0), (0, 1, 1), (0, 1, 1, 0, 0), (1, 0, 0)])

    def test_later_rows(self):
        part = screen(CELL, handler(later(either(TURN_A, slot="z"), SAY_X)))
        self.assertEqual(never_done(Book(part, PASS)), [(1, 0, 0, 0, 0, 0, 0)])

    def test_rows_that_only_refused_starts_and_events_do(self):
        self.assertEqual(never_done(Book(SLIPS, PASS)), [(1, 0, 0, 0, 0), (2, 0, 0)])
        part = screen(handler(SAY_X, *[later()] * 3, later(SAY_X)))
        self.assertEqual(never_done(Book(part, PASS)), part.row_paths()[1:])
        self.assertEqual(never_done(Book(ALL_SLIP, PASS)), ALL_SLIP.row_paths())
        self.assertEqual(never_done(Book(NEVER, CALL)), NEVER.row_paths())
        self.assertEqual(never_done(Book(NEVER, PASS)), [])
        self.assertEqual(never_done(Book(BACK, PASS, most=1)), [(1, 0, 0), (2, 0, 0, 0, 0)])

    def test_parts_without_rows(self):
        self.assertEqual([never_done(Book(part, PASS)) for part in (EMPTY, NO_ROWS)], [[], []])

    def test_a_new_list_each_time(self):
        book = Book(SLIPS, PASS)
        never_done(book).clear()
        self.assertEqual(len(never_done(book)), 2)


class Costs(unittest.TestCase):

    def test_against_the_steps(self):
        nones = 0
        for number, part in enumerate(ALL):
            events = all_events(part)
            for words in starts_of(part)[:3]:
                for run in [(words, ())] + [(words, tuple(events[at:] + events[:at]) * 2) for at in range(len(events))]:
                    for most in (50, 2):
                        expected = []
                        for rule in RULES:
                            deeds, behind = replayed(part, rule, run, most)
                            if None in deeds:
                                expected.append(None)
                                nones += 1
                            else:
                                expected.append((sum(deed.calls for deed in deeds),
                                                 sum(item[0] == "run" for deed in deeds for item in deed.trace)))
                        self.assertEqual(costs(part, run, most=most), expected)
        self.assertGreater(nones, 50)

    def test_the_example(self):
        self.assertEqual(costs(STALE, ((), (GO, GO))), [(2, 2), (3, 2), (2, 2), (3, 2)])

    def test_the_four_rules_differ(self):
        part = screen(CELL, handler(TURN_A, TURN_A, ("set", "a", "a")), effect(SAY_X, slots=None))
        self.assertEqual(costs(part, (("off",), (GO,))), [(1, 2), (2, 3), (3, 4), (4, 5)])
        self.assertEqual(costs(part, (("off",), (("hand", "x", "off"),))), [(1, 1), (2, 2), (1, 1), (2, 2)])

    def test_refused_starts_and_events(self):
        self.assertEqual(costs(NEVER, ((), ())), [(1, 1), None, (1, 1), None])
        self.assertEqual(costs(NEVER, ((), (TICK,))), [(1, 1), None, (1, 1), None])
        self.assertEqual(costs(SLIPS, (("on",), ())), [None] * 4)
        self.assertEqual(costs(SLIPS, (("off",), (ON,))), [None] * 4)
        self.assertEqual(costs(SLIPS, (("off",), (ON, TICK))), [None] * 4)
        self.assertEqual(costs(FULL, (("off",), (GO, GO, GO))), [None] * 4)
        self.assertEqual(costs(BACK, (("off",), (GO,)), most=1), [None] * 4)
        self.assertEqual(costs(BACK, (("off",), (GO,)), most=2), [(3, 4)] * 4)

    def test_fifty_calls_if_they_are_left_out(self):
        self.assertEqual([costs(FIFTY, ((), ())), costs(FIFTY_ONE, ((), ()))], [[(50, 50)] * 4, [None] * 4])
        self.assertEqual([costs(FIFTY, ((), ()), most=49), costs(FIFTY_ONE, ((), ()), most=51)],
                         [[None] * 4, [(51, 51)] * 4])

    def test_parts_without_rows_inputs_or_events(self):
        self.assertEqual(costs(EMPTY, ((), ())), [(1, 0)] * 4)
        self.assertEqual(costs(EMPTY, ((), (TICK, TICK))), [(1, 0)] * 4)
        self.assertEqual(costs(NO_ROWS, (("off", "on"), (ON, ON))), [(2, 0), (3, 0), (2, 0), (3, 0)])

    def test_wrong_bounds(self):
        for most in BAD_BOUNDS:
            with self.assertRaises(InvalidBound) as caught:
                costs(STALE, (None, (None,)), most=most)
            self.assertIs(caught.exception.value, most)
        for most in (1, 500):
            self.assertEqual(costs(EMPTY, ((), ()), most=most), [(1, 0)] * 4)

    def test_wrong_starts(self):
        for words in [None, True, "off", ["off"], {}, (), ("maybe",), ("off", "off"), (None,),
                      ((),)] + list(nested(20)):
            for events in ((), (None,), (GO, TICK)):
                with self.assertRaises(InvalidStart) as caught:
                    costs(WAITS, (words, events))
                self.assertIs(caught.exception.words, words)
        with self.assertRaises(InvalidStart):
            costs(EMPTY, (None, ()))

    def test_wrong_events(self):
        for event in [None, True, 0, "tick", ["tick"], (), {}, ("press",), ("press", "stop"), ("hand", "x"),
                      ("hand", "y", "on"),
                      ("hand", "x", "maybe"), ("tick", "tick"), ("press", ["go"])] + list(nested(20)):
            for events in ((event,), (GO, event), (TICK, event, event), (event, None)):
                with self.assertRaises(InvalidEvent) as caught:
                    costs(WAITS, (("off",), events))
                self.assertIs(caught.exception.event, event)
        # Also behind a start or an event that is refused under every rule.
        for part, run in ((SLIPS, (("on",), (None,))), (SLIPS, (("off",), (ON, None))), (NEVER, ((), (None,)))):
            with self.assertRaises(InvalidEvent):
                costs(part, run)

    def test_arguments_stay_and_lists_are_new(self):
        run = (("off",), (GO, TICK))
        first = costs(WAITS, run)
        first.clear()
        self.assertEqual([len(costs(WAITS, run)), run], [4, (("off",), (GO, TICK))])


class Unchanged(unittest.TestCase):

    def test_a_book_answers_alike_behind_all_questions(self):
        for part in NAMED.values():
            book, other = Book(part, EACH), Book(part, EACH)
            for count in range(2):
                most_calls(book)
                never_done(book)
                for path in part.functions():
                    most_runs(book, path)
            self.assertEqual([book.standings(), book.faults(), most_calls(book), never_done(book)],
                             [other.standings(), other.faults(), most_calls(other), never_done(other)])

    def test_boxes_and_tables(self):
        part = Part(WORDS, (), ("go",), (BOX, CELL, handler(("fetch", "b", "y"), ("turn", "a", SWAP),
                                                            ("write", "b", "a"))))
        self.assertEqual([most_calls(Book(part, PASS)), never_done(Book(part, PASS)), never_done(Book(BOXES, PASS))],
                         [(1, ((), ())), [], []])


if __name__ == "__main__":
    unittest.main()
