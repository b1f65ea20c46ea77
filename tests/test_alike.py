"""Points 44 to 46: pairs that are compared, runs side by side, and the least run that shows a difference."""

import itertools
import unittest

from calledanew.alike import alike, difference
from calledanew.books import Book
from calledanew.calling import begin, step
from calledanew.errors import InvalidBound, InvalidPart, LimitExceeded, NotComparable
from calledanew.lists import with_list
from calledanew.parts import Part
from calledanew.standings import all_events
from deeds import BAD_BOUNDS, CALL, EACH, GO, ON, PASS, RULES, SWAP, TICK, WORDS, screen
from plain import done, runs_of, starts_of
from samples import effect, either, handler, later
from shelves import (ALL, BACK, BOXES, CELL, COUNTS, EMPTY, FIFTY, FIFTY_ONE, FULL, MIXED, NAMED, NEVER, NO_ROWS, SAY_A,
                     SAY_X, STALE, TURN_A, TWO_INPUTS, WAITS)
from test_books import length_for

SHOW_X = ("show", "x")
BOX = ("box", "b", "off")
# Starts that are refused if x is on, by a slip or by calls without end, and starts that are always refused.
SLIP_ON = screen(CELL, effect(either(TURN_A), slots=("x",)), either(BOX, slot="a"))
ROUND_ON = screen(CELL, effect(either(TURN_A), slots=None))
FULL_START = screen(effect(*[later()] * 4))
SLIP_START = screen(CELL, effect(TURN_A), either(BOX, slot="a"))
ROUND_START = screen(CELL, effect(TURN_A, slots=None))
# Presses that are refused, for the same three reasons.
SLIP_GO = screen(CELL, handler(TURN_A), either(BOX, slot="a"))
ROUND_GO = screen(CELL, ("cell", "c", "off"), handler(TURN_A), effect(either(("turn", "c", SWAP), slot="a"),
                                                                      slots=("a", "c")))
FULL_GO = screen(handler(*[later()] * 4))
PLAIN = screen(handler())


def plain_difference(first, second, length, says_only=False, most=50):
    """The first of all runs up to a length that shows a difference."""
    sides = [runs_of(part, rule, length, most) for part, rule in (first, second)]
    for (run, deed, found, behind), (same, other, more, end) in itertools.zip_longest(*sides):
        assert run == same
        if (deed is None) != (other is None):
            return run
        if deed is not None and (deed.said != other.said or not says_only and deed.shown != other.shown):
            return run
    return None


def pairs_ahead(first, second, says_only=False):
    """How many pairs are found ahead of the least run that shows a difference, and whether there is such a run."""
    pairs, ends = [], []
    for words in starts_of(first[0]):
        ends.append([done(lambda: begin(part, rule, words))[0] for part, rule in (first, second)])
    events = all_events(first[0])
    at = 0
    while ends:
        left, right = ends.pop(0)
        if (left is None) != (right is None):
            return len(pairs), True
        if left is not None:
            if left.said != right.said or not says_only and left.shown != right.shown:
                return len(pairs), True
            if (left.after, right.after) not in pairs:
                pairs.append((left.after, right.after))
        if not ends and at < len(pairs):
            standings = pairs[at]
            at += 1
            for event in events:
                ends.append([done(lambda: step(side[0], side[1], standing, event))[0]
                             for side, standing in zip((first, second), standings)])
    return len(pairs), False


def refusal(*arguments, **bounds):
    """The error of `difference`, which must be that of `alike`."""
    errors = []
    for ask in (difference, alike):
        try:
            ask(*arguments, **bounds)
            errors.append(None)
        except (InvalidBound, NotComparable, LimitExceeded) as error:
            errors.append((error.__class__, *vars(error).values()))
    assert errors[0] == errors[1]
    return errors[0]


class Compared(unittest.TestCase):
    """Point 44."""

    def refuses(self, first, second, part):
        for left, right in ((first, second), (second, first)):
            for rules in ((PASS, PASS), (CALL, EACH)):
                self.assertEqual(refusal((left, rules[0]), (right, rules[1])), (NotComparable, part))

    def part(self, words=("a", "b"), inputs=("x", "y"), events=("go", "up")):
        return Part(words, inputs, events, ())

    def test_words(self):
        for words in (("a", "c"), ("b", "a"), ("a", "b", "c"), ("a", "b", "c", "d")):
            self.refuses(self.part(), self.part(words), "words")
        self.refuses(self.part(("a", "b", "c")), self.part(("a", "c", "b")), "words")

    def test_inputs(self):
        for inputs in ((), ("x",), ("y",), ("y", "x"), ("x", "z"), ("z", "y")):
            self.refuses(self.part(), self.part(inputs=inputs), "inputs")

    def test_events(self):
        for events in ((), ("go",), ("up",), ("up", "go"), ("go", "no"), ("go", "up", "no")):
            self.refuses(self.part(), self.part(events=events), "events")

    def test_the_first_that_differs(self):
        first = self.part()
        self.refuses(first, self.part(("b", "a"), ("y", "x"), ("up", "go")), "words")
        self.refuses(first, self.part(("b", "a"), ("x", "y"), ("up", "go")), "words")
        self.refuses(first, self.part(("b", "a"), ("y", "x")), "words")
        self.refuses(first, self.part(inputs=("y", "x"), events=()), "inputs")

    def test_rows_do_not_matter(self):
        self.assertIsNone(refusal((STALE, PASS), (Part(WORDS, (), ("go",), ()), EACH)))
        self.assertIsNone(refusal((TWO_INPUTS, PASS), (NO_ROWS, CALL)))


class Shown(unittest.TestCase):
    """Point 45, by hand."""

    def run_is(self, first, second, run, says_only=False, rules=(PASS, PASS), most=50):
        """Both sides show the difference first at the end of this run, or are alike if it is None."""
        for left, right in ((0, 1), (1, 0)):
            sides = ((first, rules[0]), (second, rules[1]))
            sides = (sides[left], sides[right])
            self.assertEqual(difference(*sides, says_only=says_only, most=most), run)
            self.assertIs(alike(*sides, says_only=says_only, most=most), run is None)
            self.assertEqual(plain_difference(*sides, 3, says_only, most), run)

    def test_at_a_start(self):
        for row in (("show", "y"), ("show", "q")):
            self.run_is(screen(row), screen(("put", row[1], "on"), row), (("off",), ()))
        self.run_is(screen(SHOW_X), screen(("show", "y")), (("on",), ()))
        self.run_is(screen(SHOW_X), screen(), (("off",), ()))
        self.run_is(screen(SHOW_X), screen(SHOW_X, SHOW_X), (("off",), ()))

    def test_at_a_start_by_what_is_said(self):
        first, second = screen(effect(SAY_X)), screen(effect(("say", "y")))
        for says_only in (False, True):
            self.run_is(first, second, (("on",), ()), says_only)
        self.run_is(first, screen(effect(SAY_X, SAY_X)), (("off",), ()), True)
        self.run_is(screen(effect(SAY_X, ("say", "y"))), screen(effect(("say", "y"), SAY_X)), (("on",), ()), True)

    def test_what_is_shown_alone(self):
        self.run_is(screen(SHOW_X), screen(("show", "y")), None, says_only=True)
        first, second = screen(CELL, handler(TURN_A), ("show", "a")), screen(CELL, handler(), ("show", "a"))
        self.run_is(first, second, (("off",), (GO,)))
        self.run_is(first, second, None, says_only=True)

    def test_at_an_event_by_what_is_said(self):
        for says_only in (False, True):
            self.run_is(screen(handler(SAY_X)), screen(handler(("say", "y"))), (("on",), (GO,)), says_only)
            self.run_is(screen(handler(SAY_X)), screen(handler()), (("off",), (GO,)), says_only)
            self.run_is(screen(handler(SAY_X, slots=())), screen(handler(SAY_X, slots=("x",))), (("off",), (ON, GO)),
                        says_only)
            self.run_is(screen(handler(later(SAY_X))), screen(handler(later(("say", "y")))), (("on",), (GO, TICK)),
                        says_only)
            self.run_is(screen(effect(SAY_X)), screen(effect(SAY_X, slots=("x",))), (("off",), (ON,)), says_only)

    def test_said_earlier_than_shown(self):
        # The press is said at once and shown behind the second press alone.
        first = screen(CELL, handler(("say", "a"), TURN_A), ("show", "x"))
        second = screen(CELL, handler(("say", "a"), TURN_A, slots=()), ("show", "x"))
        self.run_is(first, second, (("off",), (GO, GO)))
        self.run_is(first, second, (("off",), (GO, GO)), says_only=True)
        first = screen(CELL, handler(TURN_A), effect(("say", "a"), slots=("a", "x")), ("show", "a"))
        second = screen(CELL, handler(TURN_A), effect(("say", "a"), slots=("x",)), ("show", "a"))
        self.run_is(first, second, (("off",), (GO,)), says_only=True)

    def test_one_of_the_two_refuses_a_start(self):
        for part in (SLIP_ON, ROUND_ON):
            for says_only in (False, True):
                self.run_is(part, screen(CELL), (("on",), ()), says_only)
        for part in (FULL_START, SLIP_START, ROUND_START):
            self.run_is(part, screen(), (("off",), ()))
        self.run_is(NEVER, Part(WORDS, (), (), ()), ((), ()), rules=(CALL, CALL))
        self.run_is(NEVER, Part(WORDS, (), (), ()), None, rules=(PASS, CALL))

    def test_both_refuse_a_start(self):
        # The starts with x on are refused for two reasons, and behind the others the hand is.
        self.run_is(SLIP_ON, ROUND_ON, None)
        self.run_is(screen(*SLIP_ON.rows, handler(SAY_X)), ROUND_ON, (("off",), (GO,)))
        for first, second in itertools.product((FULL_START, SLIP_START, ROUND_START), repeat=2):
            self.run_is(first, second, None)
            self.run_is(screen(*first.rows, ("show", "x"), handler(SAY_X)), second, None)
        self.run_is(NEVER, Part(WORDS, (), (), (*NEVER.rows, ("show", "c"))), None, rules=(CALL, CALL))

    def test_one_of_the_two_refuses_an_event(self):
        for part in (SLIP_GO, ROUND_GO, FULL_GO):
            for says_only in (False, True):
                self.run_is(part, PLAIN, (("off",), (GO,)), says_only)

    def test_both_refuse_an_event(self):
        for first, second in itertools.combinations_with_replacement((SLIP_GO, ROUND_GO, FULL_GO), 2):
            self.run_is(first, second, None)

    def test_both_stay_as_they_are_where_both_refuse(self):
        # The press would turn both cells, but is refused: only the second handler tells them apart.
        up = ("handler", "up", None, (("say", "x"),))
        first = screen(*SLIP_GO.rows, up, events=("go", "up"))
        second = screen(*FULL_GO.rows, ("handler", "up", None, (("say", "y"),)), events=("go", "up"))
        self.run_is(first, second, (("on",), (("press", "up"),)))
        self.run_is(first, screen(*FULL_GO.rows, up, events=("go", "up")), None)

    def test_under_two_rules(self):
        part = screen(CELL, handler(TURN_A, SAY_A), effect(SAY_A, slots=("a",)))
        self.run_is(part, part, (("off",), (GO,)), rules=(PASS, EACH))
        part = screen(CELL, effect(SAY_X, slots=None), handler(("set", "a", "a")))
        self.run_is(part, part, (("off",), (GO,)), rules=(PASS, CALL))
        for part in NAMED.values():
            for rule in RULES:
                self.assertTrue(alike((part, rule), (part, rule)))

    def test_the_bound_of_calls(self):
        self.run_is(BACK, screen(CELL, ("show", "a")), None, most=2)
        self.run_is(BACK, screen(CELL, ("show", "a")), (("off",), (GO,)), most=1)
        self.run_is(COUNTS, screen(words=COUNTS.words), (("p",), ()), most=3)

    def test_parts_without_rows_inputs_or_events(self):
        self.assertTrue(alike((EMPTY, PASS), (EMPTY, CALL)))
        self.assertTrue(alike((NO_ROWS, PASS), (NO_ROWS, CALL)))
        self.assertEqual(difference((EMPTY, PASS), (Part(WORDS, (), (), (SHOW_X,)), PASS)), ((), ()))

    def test_truth(self):
        self.assertIs(alike((STALE, PASS), (STALE, EACH)), True)
        self.assertIs(alike((STALE, PASS), (with_list(STALE, (1,), None), EACH)), False)

    def test_the_example(self):
        self.assertEqual(difference((STALE, PASS), (with_list(STALE, (1,), ("c",)), PASS)), ((), (GO, GO)))


def cases():
    """Pairs of parts and rules that are now and then alike."""
    for number, part in enumerate(ALL):
        rule, other = RULES[number % 4], RULES[(number + 1 + number // 4) % 4]
        yield (part, rule), (part, other)
        for path in part.hooks()[::-1]:
            row = part.row_at(path)
            if row[0] in ("effect", "handler"):
                yield (part, rule), (with_list(part, path, None), rule)
                yield (part, rule), (with_list(part, path, part.held(path + (0,))[:4]), other)
                break
        for kind in ("say", "if", "turn"):
            paths = [path for path in part.row_paths() if part.row_at(path)[0] == kind]
            for path in paths[-1:]:
                row = part.row_at(path)
                other = row[:3] + (row[4], row[4]) if kind == "if" else ("put", "q", part.words[0])
                try:
                    yield (part, rule), (part.with_row(path, other), rule)
                except InvalidPart:
                    continue


class PlainSearch(unittest.TestCase):

    def test_against_all_runs_up_to_some_length(self):
        sizes = {}
        for first, second in cases():
            for says_only, most, runs in ((False, 50, 200), (True, 50, 60), (False, 2, 60)):
                length = length_for(first[0], runs)
                run = difference(first, second, says_only=says_only, most=most)
                expected = plain_difference(first, second, length, says_only, most)
                if run is None or len(run[1]) <= length:
                    self.assertEqual(run, expected)
                else:
                    self.assertIsNone(expected)
                self.assertIs(alike(first, second, says_only=says_only, most=most), run is None)
                size = None if run is None else len(run[1])
                sizes[size] = sizes.get(size, 0) + 1
        self.assertTrue(all(sizes[size] > 5 for size in (None, 0, 1, 2)), sizes)

    def test_done_again_it_shows_at_its_last_event_and_nowhere_before(self):
        for first, second in cases():
            run = difference(first, second)
            if run is not None:
                shows = []
                for part, rule in (first, second):
                    deeds = [done(lambda: begin(part, rule, run[0]))[0]]
                    standing = deeds[0] and deeds[0].after
                    for event in run[1]:
                        deeds.append(done(lambda: step(part, rule, standing, event))[0])
                        standing = deeds[-1].after if deeds[-1] else standing
                    shows.append([deed and (deed.shown, deed.said) for deed in deeds])
                self.assertEqual(shows[0][:-1], shows[1][:-1])
                self.assertNotEqual(shows[0][-1], shows[1][-1])
                self.assertNotIn(None, shows[0][:-1])

    def test_asked_in_the_other_order_and_twice(self):
        for first, second in list(cases())[::3]:
            run = difference(first, second)
            self.assertEqual([difference(second, first), difference(first, second)], [run, run])


class Limits(unittest.TestCase):
    """Point 46."""

    def test_exactly_the_number_of_pairs_and_one_below(self):
        seen = {True: 0, False: 0}
        for first, second in list(cases())[::2]:
            for says_only in (False, True):
                many, differs = pairs_ahead(first, second, says_only)
                run = difference(first, second, says_only=says_only)
                self.assertIs(run is not None, differs)
                if many > 0:
                    self.assertEqual(difference(first, second, says_only=says_only, limit=many), run)
                if many > 1:
                    seen[differs] += 1
                    self.assertEqual(refusal(first, second, says_only=says_only, limit=many - 1),
                                     (LimitExceeded, many - 1))
        self.assertGreater(min(seen.values()), 20, seen)

    def test_a_difference_ahead_of_the_limit_and_behind_it(self):
        # The first start shows the difference, the second start none; or the other way round.
        first = screen(handler(SAY_X), ("show", "x"))
        self.assertEqual(difference((first, PASS), (screen(), PASS), limit=1), (("off",), ()))
        second = screen(either(("show", "x"), other=(("show", "x"), ("show", "x")), word="off"))
        self.assertEqual(difference((second, PASS), (screen(("show", "x")), PASS), limit=1), (("on",), ()))
        third = screen(handler(("say", "y")), ("show", "x"))
        self.assertEqual(difference((first, PASS), (third, PASS), limit=2), (("on",), (GO,)))
        self.assertEqual(refusal((first, PASS), (third, PASS), limit=1), (LimitExceeded, 1))

    def test_each_pair_counts_once(self):
        self.assertTrue(alike((EMPTY, PASS), (EMPTY, PASS), limit=1))
        self.assertTrue(alike((NO_ROWS, PASS), (NO_ROWS, PASS), limit=4))
        self.assertEqual(refusal((NO_ROWS, PASS), (NO_ROWS, PASS), limit=3), (LimitExceeded, 3))
        many = len(Book(WAITS, PASS))
        self.assertTrue(alike((WAITS, PASS), (WAITS, PASS), limit=many))
        self.assertEqual(refusal((WAITS, PASS), (WAITS, PASS), limit=many - 1), (LimitExceeded, many - 1))

    def test_pairs_are_more_than_standings(self):
        # Two cells that take turns at different paces: three times two pairs.
        words = ("p", "q", "r")
        parts = [Part(words, (), ("go",), (("cell", "a", "p"), handler(("turn", "a", table))))
                 for table in (("q", "r", "p"), ("q", "p", "p"))]
        self.assertEqual([len(Book(part, PASS)) for part in parts], [3, 2])
        self.assertTrue(alike((parts[0], PASS), (parts[1], PASS), limit=6))
        self.assertEqual(refusal((parts[0], PASS), (parts[1], PASS), limit=5), (LimitExceeded, 5))

    def test_smallest_and_greatest(self):
        for most, limit in ((1, 20000), (500, 1), (500, 20000), (1, 1)):
            self.assertIsNone(refusal((EMPTY, PASS), (EMPTY, CALL), most=most, limit=limit))

    def test_the_limit_that_is_left_out(self):
        # Far more than 5000 standings: words of two inputs, five cells and two boxes.
        turns = [("turn", cell, ("q", "r", "s", "p")) for cell in ("a", "b", "c", "d")]
        part = Part(("p", "q", "r", "s"), ("x", "y"), ("one", "two", "three"), (
            *[("cell", cell, "p") for cell in ("a", "b", "c", "d")], ("box", "m", "p"), ("box", "n", "p"),
            ("handler", "one", None, (turns[0], either(turns[1], slot="a", word="s"), ("write", "m", "x"))),
            ("handler", "two", None, (turns[2], either(turns[3], slot="c", word="s"), ("write", "n", "y"))),
            ("handler", "three", None, (("set", "b", "x"), ("set", "d", "y")))))
        self.assertEqual(refusal((part, PASS), (part, PASS)), (LimitExceeded, 5000))
        with self.assertRaises(LimitExceeded) as caught:
            Book(part, PASS)
        self.assertEqual(caught.exception.limit, 2000)

    def test_fifty_calls_if_they_are_left_out(self):
        empty = Part(FIFTY.words, (), (), (("show", "a"),))
        for ask in (difference, lambda *sides, **bounds: None if alike(*sides, **bounds) else ((), ())):
            self.assertEqual([ask((part, PASS), (FIFTY_ONE, PASS)) for part in (FIFTY, FIFTY_ONE)], [((), ()), None])
            self.assertIsNone(ask((FIFTY, PASS), (FIFTY_ONE, PASS), most=49))
            self.assertIsNone(ask((FIFTY, PASS), (FIFTY_ONE, PASS), most=51))
            self.assertEqual(ask((FIFTY, PASS), (empty, PASS)), ((), ()))


class Errors(unittest.TestCase):

    def test_wrong_bounds(self):
        sides = ((STALE, PASS), (STALE, CALL))
        for value in BAD_BOUNDS:
            self.assertEqual(refusal(*sides, most=value), (InvalidBound, value))
            self.assertEqual(refusal(*sides, most=value, limit=0), (InvalidBound, value))
            if value not in (501, 502):
                self.assertEqual(refusal(*sides, limit=value), (InvalidBound, value))
        for value in (20001, 20002, 10 ** 9):
            self.assertEqual(refusal(*sides, limit=value), (InvalidBound, value))
        for value in (10001, 501):
            self.assertIsNone(refusal(*sides, limit=value))

    def test_their_order(self):
        other = Part(("on", "off"), ("x",), (), ())
        self.assertEqual(refusal((STALE, PASS), (other, PASS), most=0, limit=20001), (InvalidBound, 0))
        self.assertEqual(refusal((STALE, PASS), (other, PASS), limit=20001), (InvalidBound, 20001))
        self.assertEqual(refusal((STALE, PASS), (other, PASS), limit=1), (NotComparable, "words"))
        self.assertEqual(refusal((WAITS, PASS), (WAITS, CALL), limit=1), (LimitExceeded, 1))
        self.assertEqual(refusal((WAITS, PASS), (screen(inputs=("y",)), CALL), limit=1), (NotComparable, "inputs"))
        self.assertEqual(refusal((WAITS, PASS), (screen(events=("no",)), CALL), limit=1), (NotComparable, "events"))

    def test_arguments_stay(self):
        for part in (MIXED, FULL, BOXES):
            first, second = (part, PASS), (part, EACH)
            rows = part.rows
            difference(first, second)
            self.assertEqual([first[0].rows, first[1].batch, second[1].batch], [rows, "together", "each"])


if __name__ == "__main__":
    unittest.main()
