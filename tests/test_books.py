"""Points 36 to 40: books against a plain search over all runs, and what each of their methods answers."""

import copy
import unittest

from calledanew.books import Book
from calledanew.calling import step
from calledanew.errors import (InvalidBound, InvalidEvent, InvalidKind, LimitExceeded, NoFault, NoStanding,
                               Slipped, TooManyCalls, TooManyLater)
from calledanew.judge import KINDS, faults
from calledanew.standings import all_events, is_standing
from calledanew.verdicts import Verdict
from deeds import BAD_BOUNDS, CALL, EACH, GO, PASS, RULES, SWAP, TICK, screen
from plain import PlainBook, done, replayed, runs_of, starts_of
from samples import effect, handler, nested, part_of
from shelves import (ALL, BACK, BOXES, COUNTS, DRAWN, EMPTY, FULL, MIXED, NAMED, NEVER, NO_INPUTS, NO_ROWS, SLIPS,
                     STALE,
                     TURN_A, TWO_INPUTS, WAITS)

# Values of other kinds than a caller should pass, of which some are not even hashable.
ANY_VALUES = [None, True, False, 0, 1, -1, 5, 10 ** 30, "", "go", "stale", (), (0,), (True,), (None,), [], [0], {},
              {"a": 1},
              ((),), ([],), ({},), (("tick",),), ["tick"], ("press",), ("hand", "x"),
              ("hand", ["x"], "on")] + list(nested(20))


def length_for(part, most=1500):
    """How long all runs may be so that there are not too many of them."""
    length, many = 0, len(starts_of(part))
    total = many
    while length < 6 and total + many * len(all_events(part)) <= most:
        length += 1
        many *= len(all_events(part))
        total += many
    return length


def upto(runs, length):
    """Those items of a dict of runs that have at most so many events, in their order."""
    return [(key, run) for key, run in runs.items() if len(run[1]) <= length]


def told_by(book):
    """All that a book tells by itself."""
    return [len(book), book.moves(), book.starts(), book.standings(), [book.least_run(at) for at in book.standings()],
            book.faults(), [book.least_fault(*fault) for fault in book.faults()],
            [book.follow(at, event) for at in book.standings() for event in book.moves()],
            [book.is_free(kind) for kind in KINDS], book.verdict().pairs(), book.part, book.rule, book.most, book.limit]


class PlainSearch(unittest.TestCase):

    def compare(self, part, rule, most=50, runs=1500):
        book = Book(part, rule, most=most)
        length = length_for(part, runs)
        plain = PlainBook(part, rule, length, most)
        least = {standing: book.least_run(standing) for standing in book.standings()}
        self.assertEqual(upto(least, length), list(plain.least.items()))
        found = {fault: book.least_fault(*fault) for fault in book.faults()}
        self.assertEqual(dict(upto(found, length)), plain.faults)
        return max([len(run[1]) for run in least.values()] or [0]) < length

    def test_named_parts_under_each_rule(self):
        for name, part in NAMED.items():
            for rule in RULES:
                with self.subTest(name, batch=rule.batch, same=rule.same):
                    self.compare(part, rule)

    def test_drawn_parts(self):
        whole = 0
        for number, part in enumerate(DRAWN):
            with self.subTest(number):
                whole += self.compare(part, RULES[number % 4])
        self.assertGreater(whole, len(DRAWN) // 2)

    def test_small_bounds_of_calls(self):
        refused = 0
        for number, part in enumerate(DRAWN + list(NAMED.values())):
            for most in (1, 2):
                with self.subTest(number, most=most):
                    self.compare(part, RULES[number % 4], most, runs=300)
                    refused += not Book(part, RULES[number % 4], most=most).is_free("round")
        self.assertGreater(refused, 20)

    def test_the_parts_have_faults_of_all_kinds(self):
        kinds = {kind for part in ALL for rule in RULES for kind, path in Book(part, rule, most=5).faults()}
        self.assertEqual(kinds, set(KINDS))


class Runs(unittest.TestCase):
    """Point 36, and what a least run done again comes to."""

    def test_each_least_run_leads_to_its_standing(self):
        for number, part in enumerate(ALL):
            rule = RULES[number % 4]
            book = Book(part, rule)
            for standing in book.standings():
                run = book.least_run(standing)
                deeds, behind = replayed(part, rule, run)
                self.assertEqual(behind, standing)
                self.assertEqual([deed.event for deed in deeds], [None, *run[1]])

    def test_each_least_run_of_a_fault_has_it_at_its_end(self):
        for number, part in enumerate(ALL):
            rule = RULES[number % 4]
            book = Book(part, rule, most=3)
            for fault in book.faults():
                run = book.least_fault(*fault)
                deeds, behind = replayed(part, rule, run, most=3)
                self.assertNotIn(None, deeds[:-1])
                if fault[0] in ("slip", "full", "round"):
                    self.assertIsNone(deeds[-1])
                else:
                    self.assertIn(fault, faults(part, deeds[-1].before, deeds[-1].trace, deeds[-1].after))
                for deed in deeds[:-1]:
                    self.assertNotIn(fault, faults(part, deed.before, deed.trace, deed.after))

    def test_words_and_events_are_tuples(self):
        for part in NAMED.values():
            book = Book(part, PASS)
            runs = [book.least_run(at) for at in book.standings()] + [book.least_fault(*at) for at in book.faults()]
            for run in runs:
                self.assertEqual([type(run), type(run[0]), type(run[1]), len(run)], [tuple, tuple, tuple, 2])
                self.assertTrue(all(event in book.moves() for event in run[1]))
                self.assertIn(run[0], starts_of(part))


class Orders(unittest.TestCase):
    """Point 37."""

    def test_fewer_events_then_starts_then_events(self):
        for part in (TWO_INPUTS, BOXES, WAITS, MIXED, COUNTS):
            book = Book(part, PASS)
            moves = book.moves()
            keys = []
            for standing in book.standings():
                words, events = book.least_run(standing)
                keys.append((len(events), [part.words.index(word) for word in words],
                             [moves.index(at) for at in events]))
            self.assertEqual(keys, sorted(keys))
            self.assertEqual(len(keys), len({str(key) for key in keys}))

    def test_the_order_of_starts_is_that_of_the_words(self):
        part = screen(("show", "x"), ("show", "y"), inputs=("y", "x"), words=("z", "b", "a"))
        starts = Book(part, PASS).starts()
        self.assertEqual([words for words, standing in starts],
                         [(first, second) for first in ("z", "b", "a") for second in ("z", "b", "a")])

    def test_the_least_run_is_the_first_of_those_with_as_few_events(self):
        part = screen(("cell", "a", "off"), handler(TURN_A), ("handler", "up", None, (TURN_A,)), ("show", "a"),
                      events=("up", "go"), inputs=())
        book = Book(part, PASS)
        self.assertEqual(book.least_run(book.standings()[1]), ((), (("press", "up"),)))


class Faults(unittest.TestCase):
    """Point 39."""

    def test_the_example(self):
        book = Book(STALE, PASS)
        self.assertEqual([len(book), book.faults()], [2, [("stale", (1,))]])
        self.assertEqual(book.least_fault("stale", (1,)), ((), (GO, GO)))

    def test_refused_starts_and_events(self):
        book = Book(SLIPS, PASS)
        self.assertEqual(book.faults(), [("slip", (2, 0, 0))])
        self.assertEqual(book.least_fault("slip", (2, 0, 0)), (("on",), ()))
        self.assertEqual([words for words, standing in book.starts() if standing is None], [("on",)])
        book = Book(FULL, PASS)
        self.assertEqual(book.faults(), [("full", (1, 0, 0)), ("full", (1, 0, 1))])
        for path, events in [((1, 0, 0), (GO, TICK, GO, GO)), ((1, 0, 1), (GO, GO))]:
            run = book.least_fault("full", path)
            self.assertEqual(run[1], events)
        book = Book(BACK, PASS, most=1)
        self.assertEqual([book.faults(), book.least_fault("round", ())], [[("round", ())], (("off",), (GO,))])
        book = Book(NEVER, CALL)
        self.assertEqual([book.faults(), book.least_fault("round", ())], [[("round", ())], ((), ())])

    def test_a_refused_event_has_one_fault_alone(self):
        # The press would mix and cross before it slips.
        part = screen(("cell", "a", "off"), ("if", "a", "on", (("cell", "b", "off"), ("box", "d", "on")),
                                             (("cell", "c", "on"),)),
                      handler(TURN_A))
        book = Book(part, PASS)
        self.assertEqual(book.faults(), [("slip", (1, 0, 1))])

    def test_faults_of_starts(self):
        part = screen(("cell", "a", "off"), ("kept", "k", "a", SWAP, ()), effect(TURN_A))
        book = Book(part, PASS)
        self.assertEqual(book.faults(), [("old", (1,))])
        self.assertEqual(book.least_fault("old", (1,)), (("off",), ()))

    def test_their_order(self):
        for number, part in enumerate(ALL):
            found = Book(part, RULES[number % 4], most=4).faults()
            self.assertEqual(found, sorted(found, key=lambda fault: (KINDS.index(fault[0]), fault[1])))
            self.assertEqual(len(found), len(set(found)))
        book = Book(screen(*BACK.rows, ("if", "x", "on", (("cell", "c", "off"),), ())), PASS, most=1)
        self.assertEqual(book.faults(), [("slip", ()), ("slip", (4, 0, 0)), ("round", ())])

    def test_no_fault(self):
        for part in NAMED.values():
            book = Book(part, PASS)
            have = book.faults()
            paths = [(), (0,), (1,), (2,), (1, 0, 0), (0, 0, 0), (99,)]
            pairs = [(kind, path) for kind in KINDS + ("no", "") for path in paths]
            for kind, path in pairs:
                if (kind, path) not in have:
                    with self.assertRaises(NoFault) as caught:
                        book.least_fault(kind, path)
                    self.assertEqual((caught.exception.kind, caught.exception.path), (kind, path))

    def test_values_of_any_kind(self):
        book = Book(STALE, PASS)
        for value in ANY_VALUES + [[1], (True,), (1.0,), (1, 0)]:
            with self.assertRaises(NoFault) as caught:
                book.least_fault("stale", value)
            self.assertIs(caught.exception.path, value)
            for path in ((1,), value):
                if value != "stale":
                    with self.assertRaises(NoFault) as caught:
                        book.least_fault(value, path)
                    self.assertIs(caught.exception.kind, value)
                    self.assertIs(caught.exception.path, path)

    def test_flags_in_the_place_of_numbers(self):
        part = screen(("kept", "k", "x", SWAP, ()), ("kept", "m", "x", SWAP, ()))
        book = Book(part, PASS)
        self.assertEqual(book.faults(), [("old", (0,)), ("old", (1,))])
        for path in ((False,), (True,), [0], [1]):
            with self.assertRaises(NoFault):
                book.least_fault("old", path)

    def test_is_free(self):
        for part in NAMED.values():
            for rule in RULES:
                book = Book(part, rule)
                kinds = [kind for kind, path in book.faults()]
                for kind in KINDS:
                    self.assertIs(book.is_free(kind), kind not in kinds)
        for kind in ("", "no", "Stale", "stal", "stale ", "x" * 100):
            with self.assertRaises(InvalidKind) as caught:
                Book(STALE, PASS).is_free(kind)
            self.assertEqual(caught.exception.kind, kind)

    def test_the_verdict(self):
        for part in NAMED.values():
            book = Book(part, EACH)
            self.assertIsInstance(book.verdict(), Verdict)
            self.assertEqual(book.verdict().pairs(), book.faults())
            self.assertTrue(book.verdict() == Verdict(book.faults()))


class Standings(unittest.TestCase):
    """Point 38, and `starts`, `moves`, `follow` and `way`."""

    def test_starts(self):
        for part in ALL:
            book = Book(part, CALL)
            expected = [(run[0], behind) for run, deed, found, behind in runs_of(part, CALL, 0)]
            self.assertEqual(book.starts(), expected)
        self.assertEqual([words for words, standing in Book(NO_INPUTS, PASS).starts()], [()])
        self.assertEqual(Book(NEVER, CALL).starts(), [((), None)])
        self.assertEqual([len(Book(NEVER, CALL)), Book(NEVER, CALL).standings()], [0, []])

    def test_moves(self):
        for part in ALL:
            self.assertEqual(Book(part, PASS).moves(), all_events(part))
        self.assertEqual(Book(EMPTY, PASS).moves(), [TICK])

    def test_parts_without_rows(self):
        book = Book(EMPTY, PASS)
        self.assertEqual([book.standings(), book.faults(), book.starts()],
                         [[((), (), (), (), ())], [], [((), ((), (), (), (), ()))]])
        book = Book(NO_ROWS, CALL)
        self.assertEqual([at[0] for at in book.standings()], [("off", "off"), ("off", "on"), ("on", "off"),
                                                              ("on", "on")])

    def test_follow(self):
        for number, part in enumerate(ALL):
            rule = RULES[number % 4]
            book = Book(part, rule, most=3)
            for standing in book.standings():
                for event in book.moves():
                    deed = done(lambda: step(part, rule, standing, event, most=3))[0]
                    expected = None if deed is None else (deed.after, deed.said)
                    self.assertEqual(book.follow(standing, event), expected)
                    if expected is not None:
                        self.assertIn(expected[0], book)

    def test_events_that_change_nothing(self):
        book = Book(NO_INPUTS, PASS)
        for standing in book.standings():
            self.assertEqual(book.follow(standing, TICK), (standing, ()))

    def test_follow_refuses(self):
        book = Book(STALE, PASS)
        standing = book.standings()[0]
        for value in ANY_VALUES + [list(standing), standing[:4], (standing,), [standing], (*standing, ())]:
            with self.assertRaises(NoStanding):
                book.follow(value, GO)
            with self.assertRaises(NoStanding):
                book.follow(value, None)
            if value != TICK:
                with self.assertRaises(InvalidEvent) as caught:
                    book.follow(standing, value)
                self.assertIs(caught.exception.event, value)
        for event in (("press", "stop"), ("hand", "x", "on"), ("tick", "tick"), ["press", "go"], ("press", ["go"])):
            with self.assertRaises(InvalidEvent):
                book.follow(standing, event)

    def test_standings_of_other_parts_and_other_histories(self):
        others = [standing for part in ALL[:30] for standing in Book(part, PASS).standings()[:3]]
        for part in ALL:
            book = Book(part, PASS)
            own = book.standings()
            for standing in others:
                self.assertIs(standing in book, standing in own)
        book = Book(STALE, PASS)
        standing = book.standings()[0]
        other = (("on",),) + standing[1:]
        self.assertTrue(is_standing(STALE, other))
        for ask in (lambda: book.least_run(other), lambda: book.follow(other, GO), lambda: book.way(other, standing),
                    lambda: book.way(standing, other), lambda: book.way(other, other)):
            with self.assertRaises(NoStanding):
                ask()

    def test_flags_and_lists_in_standings(self):
        part = part_of(handler(("turn", "a", SWAP), ("write", "b", "x")), inputs=("x",))
        book = Book(part, PASS)
        for standing in book.standings():
            self.assertTrue(standing in book)
            words, hooks, entries, waiting, shown = standing
            self.assertEqual(entries[2], ("handler", (2,), None, (standing[0][:1], (0, 1))))
            for spoiled in [(words, ((False,), (True,), (2,)), entries, waiting, shown),
                            (words, hooks, entries[:2] + (("handler", (2,), None, (words[:1], (False, True))),),
                             waiting, shown),
                            (list(words), hooks, entries, waiting, shown),
                            (words, list(hooks), entries, waiting, shown),
                            (words, hooks, list(entries), waiting, shown), (words, hooks, entries, [], shown),
                            (words, hooks, entries, waiting, list(shown)), list(standing)]:
                self.assertFalse(spoiled in book)
                with self.assertRaises(NoStanding):
                    book.least_run(spoiled)
        for value in ANY_VALUES:
            self.assertFalse(value in book)
            with self.assertRaises(NoStanding):
                book.least_run(value)

    def test_way(self):
        ways = {None: 0, 0: 0, 1: 0, 2: 0}
        for number, part in enumerate(ALL):
            book = Book(part, RULES[number % 4])
            standings = book.standings()[:12]
            for first in standings:
                reached = self.ways_from(book, first)
                for second in standings:
                    way = book.way(first, second)
                    self.assertEqual(way, reached.get(second))
                    size = None if way is None else min(len(way), 2)
                    ways[size] += 1
        self.assertGreater(min(ways.values()), 100, ways)

    def ways_from(self, book, first):
        """The least events to each standing: all tuples of events, those with fewer first."""
        reached, rows = {first: ()}, [first]
        for standing in rows:
            for event in book.moves():
                answer = book.follow(standing, event)
                if answer is not None and answer[0] not in reached:
                    reached[answer[0]] = reached[standing] + (event,)
                    rows.append(answer[0])
        return reached

    def test_way_refuses(self):
        book = Book(STALE, PASS)
        standing = book.standings()[0]
        self.assertEqual(book.way(standing, standing), ())
        for value in ANY_VALUES:
            for pair in ((standing, value), (value, standing), (value, value)):
                with self.assertRaises(NoStanding):
                    book.way(*pair)


class Bounds(unittest.TestCase):
    """Point 40."""

    def test_exactly_the_number_of_standings_and_one_below(self):
        for number, part in enumerate(ALL):
            rule = RULES[number % 4]
            many = len(Book(part, rule))
            if many > 0:
                self.assertEqual(len(Book(part, rule, limit=many)), many)
            if many > 1:
                with self.assertRaises(LimitExceeded) as caught:
                    Book(part, rule, limit=many - 1)
                self.assertEqual(caught.exception.limit, many - 1)
        with self.assertRaises(LimitExceeded) as caught:
            Book(STALE, PASS, limit=1)
        self.assertEqual(caught.exception.limit, 1)
        self.assertEqual(len(Book(NEVER, CALL, limit=1)), 0)

    def test_smallest_and_greatest(self):
        for most, limit in [(1, 10000), (500, 16), (500, 10000), (50, 2000)]:
            book = Book(WAITS, PASS, most=most, limit=limit)
            self.assertEqual([book.most, book.limit, len(book)], [most, limit, 16])

    def test_attributes(self):
        book = Book(WAITS, EACH)
        self.assertIs(book.part, WAITS)
        self.assertIs(book.rule, EACH)
        self.assertEqual([book.most, book.limit], [50, 2000])
        self.assertTrue({"part", "rule", "most", "limit"} <= set(vars(book)))

    def test_wrong_bounds(self):
        for value in BAD_BOUNDS:
            with self.assertRaises(InvalidBound) as caught:
                Book(WAITS, PASS, most=value)
            self.assertIs(caught.exception.value, value)
            with self.assertRaises(InvalidBound) as caught:
                Book(WAITS, PASS, most=value, limit=1)
            self.assertIs(caught.exception.value, value)
            for limit in (0, 10001, None, True):
                with self.assertRaises(InvalidBound) as caught:
                    Book(WAITS, PASS, most=value, limit=limit)
                self.assertIs(caught.exception.value, value)
        for value in [10001, 10002] + [bad for bad in BAD_BOUNDS if bad not in (501, 502)]:
            with self.assertRaises(InvalidBound) as caught:
                Book(WAITS, PASS, limit=value)
            self.assertIs(caught.exception.value, value)

    def test_a_bound_of_calls_that_some_events_meet(self):
        whole, small = Book(BACK, PASS, most=2), Book(BACK, PASS, most=1)
        self.assertEqual([whole.faults(), small.faults()], [[], [("round", ())]])
        for standing in small.standings():
            self.assertIsNone(small.follow(standing, GO))
            self.assertEqual(small.follow(standing, ("hand", "x", "on")), whole.follow(standing, ("hand", "x", "on")))
        for most in (1, 2, 3, 4):
            starts = Book(COUNTS, PASS, most=most).starts()
            self.assertEqual([standing is None for words, standing in starts], [most < 4] * 4)

    def test_the_bound_is_passed_on_to_starts(self):
        part = screen(("cell", "a", "off"), effect(("set", "a", "x"), slots=("x",)), ("show", "a"))
        book = Book(part, PASS, most=1)
        self.assertEqual([standing is None for words, standing in book.starts()], [False, True])
        self.assertEqual([book.least_fault("round", ()), len(book)], [(("on",), ()), 1])
        self.assertEqual(Book(part, PASS, most=2).faults(), [])


class Unchanged(unittest.TestCase):

    def test_every_list_is_a_new_one(self):
        book = Book(TWO_INPUTS, PASS)
        before = copy.deepcopy(told_by(book)[:10])
        for ask in (book.moves, book.starts, book.standings, book.faults):
            first = ask()
            self.assertIsNot(ask(), first)
            first.reverse()
            first.append(None)
            del first[0]
            ask().clear()
        book.verdict().pairs().clear()
        self.assertEqual(told_by(book)[:10], before)

    def test_asked_twice_and_between_questions_to_other_books(self):
        books = [Book(part, RULES[number % 4]) for number, part in enumerate(NAMED.values())]
        first = [told_by(book) for book in books]
        for book in books:
            for standing in book.standings():
                for other in book.standings():
                    book.way(standing, other)
        self.assertEqual([told_by(book) for book in reversed(books)][::-1], first)
        again = [Book(part, RULES[number % 4]) for number, part in enumerate(NAMED.values())]
        self.assertEqual([told_by(book) for book in again], first)

    def test_a_refused_question_changes_nothing(self):
        book = Book(FULL, PASS)
        before = told_by(book)
        for ask in (lambda: book.least_run(None), lambda: book.follow([], {}), lambda: book.least_fault(1, 2),
                    lambda: book.is_free("no"), lambda: book.way(None, None)):
            with self.assertRaises((NoStanding, NoFault, InvalidKind)):
                ask()
        self.assertEqual(told_by(book), before)

    def test_no_error_of_a_start_or_event_comes_out(self):
        for part in ALL:
            try:
                Book(part, CALL, most=1)
            except (Slipped, TooManyLater, TooManyCalls):
                self.fail()


if __name__ == "__main__":
    unittest.main()
