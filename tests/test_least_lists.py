"""Point 43: the least lists of a row, against every list tried by itself."""

import itertools
import unittest

from calledanew.books import Book
from calledanew.errors import InvalidBound, InvalidKind, InvalidPath, LimitExceeded
from calledanew.judge import KINDS
from calledanew.lists import full_list, least_lists, with_list
from deeds import BAD_BOUNDS, CALL, EACH, PASS, RULES, SWAP, screen
from random_parts import parts_of
from samples import NO_PATHS, effect, either, handler
from shelves import NO_EVENTS, STALE, TWO_INPUTS

CELL = ("cell", "a", "off")
TURN_A = ("turn", "a", SWAP)
SIX = tuple([("say", slot) for slot in "fedcba"])


def lists_of(part, path):
    """All tuples of at most four slots of the full list, those with fewer slots first."""
    full = full_list(part, path)
    return [slots for many in range(5) for slots in itertools.combinations(full, many)]


def book_with(part, rule, path, slots, most=50):
    return Book(with_list(part, path, slots), rule, most=most)


def good_lists(part, rule, path, kinds, most=50):
    return [slots for slots in lists_of(part, path)
            if not any((kind, path) in book_with(part, rule, path, slots, most).faults() for kind in kinds)]


def plain_lists(part, rule, path, kinds, most=50):
    """The good lists of which no other good list is a part."""
    good = good_lists(part, rule, path, kinds, most)
    return [slots for slots in good if not any(set(other) < set(slots) for other in good)]


def list_rows(part):
    return [path for path in part.hooks() if part.row_at(path)[0] in ("kept", "effect", "handler")]


class Tried(unittest.TestCase):

    def test_the_example(self):
        self.assertEqual(least_lists(STALE, PASS, (1,), ["stale"]), [("c",)])

    def test_drawn_parts(self):
        sizes = {}
        for number, part in enumerate(parts_of(41, 150) + parts_of(42, 150, steady=True)):
            rule = RULES[number % 4]
            for path in list_rows(part):
                book = book_with(part, rule, path, ())
                for kinds in (["stale", "missed", "old"], ["needless", "late"], ("mixed", "missed")):
                    # Most rows are good with any list: only a few of these are tried.
                    bad = any((kind, path) in book.faults() for kind in kinds)
                    if len(book) < 40 and (bad or number % 10 == 0):
                        found = least_lists(part, rule, path, kinds)
                        self.assertEqual(found, plain_lists(part, rule, path, kinds))
                        sizes[len(found[0]) if found else None] = len(found)
        self.assertTrue({0, 1, 2, None} <= set(sizes), sizes)

    def test_lists_that_are_good_although_a_greater_one_is_not(self):
        # An entry of the first half stays in the second one if the lists have as many words.
        rows = tuple([("say", slot) for slot in ("k", "m", "n")])
        halves = {(): [1, 2, 3], ("q",): [0, 2, 3], ("q", "r"): [0, 1, 3], None: [0, 1, 2, 3],
                  ("q", "r", "s", "t"): [0, 1, 2, 3]}
        for listed, sizes in halves.items():
            part = screen(either(effect(slots=listed), other=(effect(*rows, slots=None),)))
            good = [slots for slots in lists_of(part, (0, 1, 0)) if len(slots) in sizes]
            self.assertEqual(good_lists(part, PASS, (0, 1, 0), ["missed"]), good)
            least = [slots for slots in good if len(slots) == sizes[0]]
            self.assertEqual(least_lists(part, PASS, (0, 1, 0), ["missed"]), least)

    def test_least_lists_of_two_slots(self):
        rows = tuple([("say", slot) for slot in ("m", "k", "n")])
        part = screen(either(effect(), other=(either(effect(slots=("q",)), other=(effect(*rows, slots=None),),
                                                     slot="y"),)),
                      inputs=("x", "y"))
        self.assertEqual(least_lists(part, PASS, (0, 1, 0, 1, 0), ["missed"]), [("k", "m"), ("k", "n"), ("m", "n")])

    def test_least_lists_of_different_sizes(self):
        # "k" alone is enough, or both others: the words of "m" and "n" together tell that of "k".
        words = ("p", "q", "r", "s")
        part = screen(("cell", "k", "p"), ("map", "m", "k", ("p", "p", "q", "q")),
                      ("map", "n", "k", ("p", "q", "p", "q")),
                      handler(("turn", "k", ("q", "r", "s", "p"))),
                      ("handler", "up", None, (("turn", "k", ("r", "s", "p", "q")),)),
                      effect(("say", "n"), ("say", "m"), ("say", "k"), slots=None), inputs=(), events=("go", "up"),
                      words=words)
        self.assertEqual(least_lists(part, PASS, (5,), ["missed"]), [("k",), ("m", "n")])
        self.assertEqual(least_lists(part, PASS, (5,), ["missed", "needless"]), [("k",), ("m", "n")])

    def test_no_good_list(self):
        # The entry is that of the other row, whatever the list is.
        part = screen(either(effect(("say", "x"), slots=()), other=(effect(("say", "x"), slots=()),)))
        self.assertEqual(least_lists(part, PASS, (0, 0, 0), ["mixed"]), [])
        self.assertEqual(least_lists(part, PASS, (0, 0, 0), ["mixed", "missed"]), [])
        self.assertEqual(least_lists(part, PASS, (0, 0, 0), ["stale", "missed"]), [("x",)])

    def test_a_full_list_of_none_to_five_slots(self):
        for many in range(6):
            rows = tuple([("say", slot) for slot in ("p", "q", "x", "r", "y")[:many]])
            part = screen(handler(*rows, slots=("z",)), inputs=("x", "y"))
            changing = tuple([slot for slot in ("x", "y") if ("say", slot) in rows])
            self.assertEqual(least_lists(part, PASS, (0,), ["stale"]), [changing])
            self.assertEqual(least_lists(part, PASS, (0,), ["needless"]), [()])

    def test_least_lists_of_three_and_four_slots(self):
        # Each slot changes by itself, so all of them must be in the list; five of them find no place in it.
        changing = ("a", "b", "c", "x", "y")
        turns = [("handler", event, None, (("turn", cell, SWAP),)) for event, cell in (("up", "a"), ("no", "b"))]
        cells = [("cell", "a", "off"), ("cell", "b", "off")]
        for slots in (changing[:2] + ("x",), ("a", "b", "x", "y"), ("a", "x", "y")):
            part = screen(*cells, *turns, handler(*[("say", slot) for slot in slots], ("say", "q")), inputs=("x", "y"),
                          events=("go", "up", "no"))
            self.assertEqual(least_lists(part, PASS, (4,), ["stale"]), [slots])
        part = screen(("cell", "c", "off"), *cells, *turns,
                      handler(*[("say", slot) for slot in changing], ("turn", "c", SWAP)), inputs=("x", "y"),
                      events=("go", "up", "no"))
        self.assertEqual(full_list(part, (5,)), changing)
        self.assertEqual(least_lists(part, PASS, (5,), ["stale"]), [])

    def test_no_kinds(self):
        for part, path in ((STALE, (1,)), (TWO_INPUTS, (0,)), (TWO_INPUTS, (2,)), (NO_EVENTS, (1,))):
            for kinds in ([], ()):
                found = least_lists(part, EACH, path, kinds)
                self.assertEqual(found, [()])
                found.append(1)
                self.assertEqual(least_lists(part, EACH, path, kinds), [()])

    def test_several_least_lists_in_order(self):
        # "b" and "c" always have the same word, so either one is enough.
        part = screen(CELL, ("map", "c", "a", SWAP), ("map", "b", "c", SWAP), handler(TURN_A),
                      effect(("say", "c"), ("say", "b"), slots=None), ("show", "a"))
        self.assertEqual(least_lists(part, PASS, (4,), ["missed"]), [("b",), ("c",)])
        part = screen(CELL, ("map", "c", "a", SWAP), ("map", "b", "c", SWAP), handler(TURN_A),
                      effect(("say", "c"), ("say", "x"), ("say", "b"), slots=None), ("show", "a"))
        self.assertEqual(least_lists(part, PASS, (4,), ("missed",)), [("b", "x"), ("c", "x")])

    def test_only_faults_at_the_path_count(self):
        part = screen(CELL, handler(("say", "x"), TURN_A, slots=()), ("handler", "up", (), (("say", "a"),)),
                      events=("go", "up"))
        self.assertEqual(least_lists(part, PASS, (1,), ["stale"]), [("x",)])
        self.assertEqual(least_lists(part, PASS, (2,), ["stale"]), [("a",)])
        self.assertEqual(least_lists(part, PASS, (2,), ["old", "missed", "needless"]), [()])
        part = screen(CELL, effect(TURN_A, ("say", "a"), slots=None))
        self.assertEqual(least_lists(part, PASS, (1,), ["round"]), [()])

    def test_the_rows_own_list_does_not_matter(self):
        for own in (None, (), ("c",), ("q", "r")):
            part = with_list(STALE, (1,), own)
            self.assertEqual(least_lists(part, PASS, (1,), ["stale"]), [("c",)])
            self.assertEqual(part, with_list(STALE, (1,), own))

    def test_the_bound_of_calls(self):
        # With "a" in the list the effect is run behind its own turn, which needs a second call.
        part = screen(CELL, effect(either(TURN_A, slot="a", word="off"), slots=None))
        for most, kinds in itertools.product((1, 2, 3), (["missed"], ["needless"], ["round"])):
            self.assertEqual(least_lists(part, PASS, (1,), kinds, most=most),
                             plain_lists(part, PASS, (1,), kinds, most=most))
        self.assertNotEqual(least_lists(part, PASS, (1,), ["missed"], most=1),
                            least_lists(part, PASS, (1,), ["missed"], most=3))

    def test_arguments_stay(self):
        kinds = ["stale", "old", "stale"]
        least_lists(STALE, PASS, (1,), kinds)
        self.assertEqual(kinds, ["stale", "old", "stale"])


class Errors(unittest.TestCase):

    SIX_SLOTS = screen(handler(*SIX))

    def refusal(self, *arguments, **bounds):
        try:
            least_lists(*arguments, **bounds)
        except (InvalidBound, InvalidPath, InvalidKind, LimitExceeded) as error:
            return (error.__class__, *vars(error).values())
        return None

    def test_wrong_bounds(self):
        for value in BAD_BOUNDS:
            self.assertEqual(self.refusal(STALE, PASS, (1,), ["stale"], most=value), (InvalidBound, value))
            if value not in (501, 502):
                self.assertEqual(self.refusal(STALE, PASS, (1,), ["stale"], limit=value), (InvalidBound, value))
        self.assertEqual(self.refusal(STALE, PASS, (1,), [], limit=10001), (InvalidBound, 10001))
        for most, limit in ((1, 10000), (500, 2), (500, 10000)):
            self.assertIsNone(self.refusal(STALE, PASS, (1,), ["stale"], most=most, limit=limit))

    def test_paths(self):
        for path in NO_PATHS + [(0,), (2,), (1, 0), (1, 0, 0)]:
            self.assertEqual(self.refusal(STALE, PASS, path, ["stale"]), (InvalidPath, path))

    def test_kinds(self):
        for kinds, first in [(["no"], "no"), (["stale", "", "no"], ""), (("no", "stale"), "no"), (["Stale"], "Stale"),
                             ([*KINDS, "x"], "x")]:
            self.assertEqual(self.refusal(STALE, PASS, (1,), kinds), (InvalidKind, first))

    def test_more_than_five_slots(self):
        for kinds in (["stale"], []):
            self.assertEqual(self.refusal(self.SIX_SLOTS, PASS, (0,), kinds), (LimitExceeded, 5))
        self.assertIsNone(self.refusal(screen(handler(*SIX[:5])), PASS, (0,), ["stale"]))

    def test_too_many_standings_with_one_of_the_lists(self):
        # With () there are two standings fewer than with the words in the list.
        part = screen(effect(("say", "x"), slots=()), effect(("say", "y"), slots=None), inputs=("x", "y"))
        sizes = {slots: len(Book(with_list(part, (1,), slots), PASS)) for slots in lists_of(part, (1,))}
        self.assertEqual(len(set(sizes.values())), 2)
        for kinds in ([], ["missed"], ["old"]):
            self.assertIsNone(self.refusal(part, PASS, (1,), kinds, limit=max(sizes.values())))
            self.assertEqual(self.refusal(part, PASS, (1,), kinds, limit=max(sizes.values()) - 1),
                             (LimitExceeded, max(sizes.values()) - 1))

    def test_the_last_list_may_be_the_one_with_too_many(self):
        for number, part in enumerate(parts_of(44, 60)):
            for path in list_rows(part)[:1]:
                rule = RULES[number % 4]
                most = max(len(Book(with_list(part, path, slots), rule)) for slots in lists_of(part, path))
                if most > 1:
                    self.assertIsNone(self.refusal(part, rule, path, [], limit=most))
                    self.assertEqual(self.refusal(part, rule, path, [], limit=most - 1), (LimitExceeded, most - 1))
                    self.assertEqual(self.refusal(part, rule, path, ["old"], limit=most - 1), (LimitExceeded, most - 1))

    def test_their_order(self):
        part = self.SIX_SLOTS
        self.assertEqual(self.refusal(part, CALL, None, ["no"], most=0, limit=0), (InvalidBound, 0))
        self.assertEqual(self.refusal(part, CALL, None, ["no"], most=501, limit=10001), (InvalidBound, 501))
        self.assertEqual(self.refusal(part, CALL, None, ["no"], limit=10001), (InvalidBound, 10001))
        self.assertEqual(self.refusal(part, CALL, None, ["no"], limit=1), (InvalidPath, None))
        self.assertEqual(self.refusal(part, CALL, (0,), ["no"], limit=1), (InvalidKind, "no"))
        self.assertEqual(self.refusal(part, CALL, (0,), ["old"], limit=1), (LimitExceeded, 5))
        self.assertEqual(self.refusal(TWO_INPUTS, CALL, (0,), ["old", "no"], limit=1), (InvalidKind, "no"))
        self.assertEqual(self.refusal(TWO_INPUTS, CALL, (0,), ["old"], limit=1), (LimitExceeded, 1))
        self.assertEqual(self.refusal(TWO_INPUTS, CALL, (1,), [], limit=1), (InvalidPath, (1,)))


if __name__ == "__main__":
    unittest.main()
