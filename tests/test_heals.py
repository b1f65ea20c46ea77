"""Point 51: sets of changes that heal a kind of fault, and the rules under which there is none."""

import itertools
import unittest

from calledanew.books import Book
from calledanew.errors import InvalidBound, InvalidChange, InvalidKind, LimitExceeded
from calledanew.heals import heals, is_change, rules_free, with_changes
from calledanew.judge import KINDS
from calledanew.rules import Rule
from deeds import BAD_BOUNDS, CALL, EACH, EACH_CALL, PASS, RULES, SWAP, screen
from random_parts import parts_of
from samples import effect, either, handler, nested
from shelves import (ALL, BACK, BOXES, CELL, COUNTS, EMPTY, FIFTY, FIFTY_ONE, MIXED, NAMED, NEVER, NO_INPUTS, NO_ROWS,
                     SAY_A,
                     SAY_X, STALE, TURN_A, TWO_INPUTS, WAITS)

UP = ("handler", "up", (), (("say", "c"), TURN_A))
# Two handlers that are out of date, and an effect that misses changes; each list row heals its own faults.
ILL = screen(CELL, ("cell", "c", "off"), handler(("say", "a"), ("turn", "c", SWAP), slots=()), UP,
             effect(("say", "a"), ("say", "c"), slots=()), inputs=(), events=("go", "up"))
CURES = [("none", (2,)), ("list", (2,), ("a",)), ("none", (3,)), ("list", (4,), ("a",)), ("list", (4,), ("c",)),
         ("list", (4,), ("a", "c")), ("list", (3,), ()), ("none", (4,))]


def kinds_of(part, rule, most=50):
    return {kind for kind, path in Book(part, rule, most=most).faults()}


def plain_heals(part, rule, kind, candidates, most=50):
    """All sets of at most three candidates that heal the kind, and of these the ones with the fewest."""
    before = kinds_of(part, rule, most)
    healing = []
    for many in range(4):
        for changes in itertools.combinations(candidates, many):
            if kinds_of(with_changes(part, changes), rule, most) <= before - {kind}:
                healing.append(changes)
    return [changes for changes in healing if len(changes) == len(healing[0])]


def candidates_of(part, many):
    """Some changes of a part: the full list, no list, and the empty list of each list row."""
    found = []
    for path in part.hooks():
        row = part.row_at(path)
        if row[0] == "kept":
            found += [("list", path, (row[2],)), ("list", path, ())]
        elif row[0] in ("effect", "handler"):
            found += [("list", path, part.held(path + (0,))[:4]), ("none", path), ("list", path, ())]
    return [change for at, change in enumerate(found) if change not in found[:at]][:many]


def refusal(ask, *arguments, **bounds):
    try:
        ask(*arguments, **bounds)
    except (InvalidBound, InvalidKind, InvalidChange, LimitExceeded) as error:
        return (error.__class__, *vars(error).values())
    return None


class Heals(unittest.TestCase):

    def test_the_example(self):
        self.assertEqual(heals(STALE, PASS, "stale", [("list", (1,), ("c",)), ("none", (1,))]),
                         [(("list", (1,), ("c",)),), (("none", (1,)),)])

    def test_against_every_set_of_at_most_three_candidates(self):
        sizes = {}
        for number, part in enumerate(parts_of(71, 70) + parts_of(72, 40, steady=True) + list(NAMED.values())):
            rule = RULES[number % 4]
            book = Book(part, rule)
            candidates = candidates_of(part, 4)
            if len(book) <= 20:
                for kind in book.verdict().kinds() + ["stale"]:
                    found = heals(part, rule, kind, candidates)
                    self.assertEqual(found, plain_heals(part, rule, kind, candidates))
                    key = (len(found) > 0, len(found[0]) if found else None)
                    sizes[key] = sizes.get(key, 0) + 1
        self.assertTrue(all(sizes.get(key, 0) > 2 for key in ((True, 0), (False, None), (True, 1))), sizes)

    def test_none_one_two_and_three_changes(self):
        self.assertEqual(heals(ILL, PASS, "old", CURES), [()])
        self.assertEqual(heals(ILL, PASS, "stale", []), [])
        self.assertEqual(heals(ILL, PASS, "stale", CURES[:2]), [])
        self.assertEqual(heals(ILL, PASS, "stale", CURES), [(CURES[0], CURES[2]), (CURES[1], CURES[2])])
        self.assertEqual(heals(ILL, PASS, "missed", CURES[:6]), [(CURES[5],)])
        for kind in ("stale", "missed"):
            self.assertEqual(heals(ILL, PASS, kind, CURES), plain_heals(ILL, PASS, kind, CURES))
        third = screen(*ILL.rows, ("handler", "no", (), (("say", "a"),)), inputs=(), events=("go", "up", "no"))
        cures = CURES[:3] + [("none", (5,))]
        self.assertEqual(heals(third, PASS, "stale", cures), [(cures[0], cures[2], cures[3]),
                                                              (cures[1], cures[2], cures[3])])
        self.assertEqual(heals(third, PASS, "stale", cures[:3]), [])

    def test_more_than_three_changes_are_not_tried(self):
        rows = [("handler", event, (), (("say", "a"),)) for event in ("up", "no")]
        ups = [("kept", slot, "a", SWAP, ()) for slot in ("k", "m", "n", "o")]
        part = screen(CELL, *ups, handler(TURN_A), *rows, inputs=(), events=("go", "up", "no"))
        cures = [("list", (at,), ("a",)) for at in (1, 2, 3, 4)]
        self.assertEqual(heals(part, PASS, "old", cures), [])
        self.assertEqual(heals(with_changes(part, cures[:1]), PASS, "old", cures), [tuple(cures[1:])])

    def test_candidates_in_their_order(self):
        for order in itertools.permutations(CURES[:3]):
            found = heals(ILL, PASS, "stale", order)
            self.assertEqual(found, [pair for pair in itertools.combinations(order, 2) if CURES[2] in pair])
            self.assertEqual(heals(ILL, PASS, "stale", list(order)), found)

    def test_sets_that_bring_another_kind(self):
        # Without a list the effect is run needlessly, with its full list it is not.
        part = screen(CELL, effect(SAY_A, slots=()), handler(TURN_A), ("show", "x"))
        self.assertEqual(heals(part, PASS, "missed", [("none", (1,))]), [])
        self.assertEqual(heals(part, PASS, "missed", [("none", (1,)), ("list", (1,), ("a",))]),
                         [(("list", (1,), ("a",)),)])
        # If it was there before it does not matter.
        part = screen(CELL, effect(SAY_A, slots=()), handler(TURN_A), effect(SAY_X, slots=None))
        self.assertEqual(heals(part, PASS, "missed", [("none", (1,))]), [(("none", (1,)),)])
        # A kind is not healed if it only moves to another row, and other paths of another kind are no new kind.
        part = screen(CELL, effect(SAY_A, slots=()), handler(SAY_A, TURN_A, slots=()), inputs=())
        self.assertEqual(heals(part, PASS, "stale", [("none", (2,)), ("list", (1,), ("a",))]), [(("none", (2,)),)])

    def test_two_candidates_at_one_path(self):
        # Neither list heals, and the last of both counts.
        part = screen(CELL, effect(SAY_A, slots=()), handler(TURN_A), ("show", "x"))
        none, own, full = ("none", (1,)), ("list", (1,), ()), ("list", (1,), ("a",))
        self.assertEqual(heals(part, PASS, "missed", [none, own]), [])
        self.assertEqual(heals(part, PASS, "missed", [full, own]), [(full,)])
        self.assertEqual(heals(part, PASS, "missed", [own, none]), [])
        # Only two handlers together: a later change at the same path spoils the set.
        ups = [CURES[0], CURES[6], CURES[2]]
        self.assertEqual(heals(ILL, PASS, "stale", ups), [(CURES[0], CURES[2])])
        self.assertEqual(heals(ILL, PASS, "stale", [CURES[0], CURES[2], CURES[6]]), [(CURES[0], CURES[2])])

    def test_eight_and_nine_candidates(self):
        self.assertEqual(len(heals(ILL, PASS, "stale", CURES)), 2)
        self.assertEqual(refusal(heals, ILL, PASS, "stale", CURES + [("list", (4,), ("q",))]), (InvalidChange, 8))
        self.assertEqual(refusal(heals, ILL, PASS, "old", CURES + [("list", (4,), ("q",))]), (InvalidChange, 8))
        self.assertEqual(refusal(heals, ILL, PASS, "stale", CURES + [None]), (InvalidChange, 8))
        self.assertEqual(refusal(heals, ILL, PASS, "stale", CURES[:7] + [None, None]), (InvalidChange, 7))

    def test_the_kinds_of_refusal_are_healed_too(self):
        part = screen(CELL, effect(TURN_A, slots=None))
        self.assertEqual(heals(part, PASS, "round", [("list", (1,), ())]), [(("list", (1,), ()),)])
        # A start that is refused has one fault alone: another kind may come to light.
        part = screen(CELL, effect(TURN_A, slots=None), ("kept", "k", "a", SWAP, ()))
        self.assertEqual(heals(part, PASS, "round", [("list", (1,), ())]), [])
        self.assertEqual(heals(part, PASS, "round", [("list", (1,), ()), ("list", (2,), ("a",))]),
                         [(("list", (1,), ()), ("list", (2,), ("a",)))])

    def test_the_bounds_are_passed_on(self):
        # With the list ("a",) the start needs three calls.
        part = screen(CELL, effect(either(TURN_A, slot="a", word="off"), slots=()), ("show", "a"))
        cure = ("list", (1,), ("a",))
        self.assertEqual(Book(part, PASS).faults(), [("missed", (1,))])
        self.assertEqual(heals(part, PASS, "missed", [cure]), [(cure,)])
        for most in (1, 2, 3):
            self.assertEqual(heals(part, PASS, "missed", [cure], most=most),
                             plain_heals(part, PASS, "missed", [cure], most))

    def test_fifty_calls_if_they_are_left_out(self):
        path = (4,)
        self.assertEqual(heals(FIFTY, PASS, "round", []), [()])
        self.assertEqual(heals(FIFTY_ONE, PASS, "round", [("none", path)]), [])
        self.assertEqual(heals(FIFTY_ONE, PASS, "round", [("none", path)], most=51), [()])

    def test_the_part_and_the_candidates_stay(self):
        candidates, rows = list(CURES), ILL.rows
        heals(ILL, PASS, "stale", candidates).clear()
        self.assertEqual([candidates, ILL.rows], [CURES, rows])
        self.assertEqual(len(heals(ILL, PASS, "stale", candidates)), 2)

    def test_parts_without_rows(self):
        for part in (EMPTY, NO_ROWS):
            for kind in KINDS:
                self.assertEqual(heals(part, CALL, kind, []), [()])


class HealsRefuses(unittest.TestCase):

    def test_wrong_bounds(self):
        for value in BAD_BOUNDS:
            self.assertEqual(refusal(heals, ILL, PASS, "stale", CURES, most=value), (InvalidBound, value))
            if value not in (501, 502):
                self.assertEqual(refusal(heals, ILL, PASS, "stale", CURES, limit=value), (InvalidBound, value))
        self.assertEqual(refusal(heals, ILL, PASS, "stale", CURES, limit=10001), (InvalidBound, 10001))
        for most, limit in ((1, 10000), (500, 10000), (500, 2000)):
            self.assertIsNone(refusal(heals, ILL, PASS, "stale", CURES, most=most, limit=limit))

    def test_kinds(self):
        for kind in ("", "no", "Stale", "stal", "stale "):
            self.assertEqual(refusal(heals, ILL, PASS, kind, CURES), (InvalidKind, kind))

    def test_candidates(self):
        for value in [None, True, "", [], {}, (), ("none", (1,)), ["none", (3,)], ("none", (True,))] + list(nested(20)):
            for at in range(8):
                for kind in ("stale", "old"):
                    self.assertEqual(refusal(heals, ILL, PASS, kind, CURES[:at] + [value]), (InvalidChange, at))
        self.assertEqual(refusal(heals, ILL, PASS, "stale", CURES[:3] + CURES[1:2]), (InvalidChange, 3))
        self.assertEqual(refusal(heals, ILL, PASS, "stale", (CURES[0], CURES[0], None)), (InvalidChange, 1))
        self.assertFalse(is_change(ILL, ("none", (1,))))

    def test_their_order(self):
        self.assertEqual(refusal(heals, ILL, PASS, "no", [None], most=0, limit=0), (InvalidBound, 0))
        self.assertEqual(refusal(heals, ILL, PASS, "no", [None], most=501, limit=10001), (InvalidBound, 501))
        self.assertEqual(refusal(heals, ILL, PASS, "no", [None], limit=10001), (InvalidBound, 10001))
        self.assertEqual(refusal(heals, ILL, PASS, "no", [None], limit=1), (InvalidKind, "no"))
        self.assertEqual(refusal(heals, ILL, PASS, "stale", [None], limit=1), (InvalidChange, 0))
        self.assertEqual(refusal(heals, ILL, PASS, "stale", CURES, limit=1), (LimitExceeded, 1))
        self.assertEqual(refusal(heals, ILL, PASS, "old", [], limit=1), (LimitExceeded, 1))

    def test_the_limit_of_the_part_as_it_was(self):
        many = len(Book(ILL, PASS))
        for kind in ("old", "stale"):
            self.assertEqual(refusal(heals, ILL, PASS, kind, [], limit=many - 1), (LimitExceeded, many - 1))
            self.assertIsNone(refusal(heals, ILL, PASS, kind, [], limit=many))

    def test_the_limit_of_sets_with_no_more_changes_than_those_returned(self):
        # Standings of the part with each change, and with both: the lists hold more and more words.
        sizes = set()
        for number, part in enumerate(parts_of(73, 150) + [ILL, BOXES, TWO_INPUTS, WAITS]):
            rule = RULES[number % 4]
            candidates = candidates_of(part, 4)
            many = {changes: len(Book(with_changes(part, changes), rule)) for count in range(4)
                    for changes in itertools.combinations(candidates, count)} if len(Book(part, rule)) < 20 else {}
            for kind in Book(part, rule).verdict().kinds() + ["late"] if many else []:
                found = heals(part, rule, kind, candidates)
                size = len(found[0]) if found else 3
                needed = max(1, *[many[changes] for changes in many if len(changes) <= size])
                self.assertEqual(heals(part, rule, kind, candidates, limit=needed), found)
                if needed > 1:
                    self.assertEqual(refusal(heals, part, rule, kind, candidates, limit=needed - 1),
                                     (LimitExceeded, needed - 1))
                if needed < max(many.values()):
                    sizes.add(("behind", size))
                if needed > many[()]:
                    sizes.add(("more", size))
        self.assertLessEqual({("behind", 0), ("more", 1), ("more", 2), ("more", 3)}, sizes)

    def test_the_limit_of_larger_sets_does_not_matter(self):
        # Each of two handlers may hold an old word of its own, so that both together double the standings twice.
        part = screen(CELL, effect(SAY_A, slots=()), handler(TURN_A), ("handler", "up", None, (SAY_X,)),
                      ("handler", "no", None, (("say", "y"),)), inputs=("x", "y"), events=("go", "up", "no"))
        first, second, cure = ("list", (3,), ()), ("list", (4,), ()), ("list", (1,), ("a",))
        sizes = [len(Book(with_changes(part, changes), PASS))
                 for changes in ([], [cure], [first], [second], [first, cure], [first, second], [first, second, cure])]
        self.assertEqual(sizes, [8, 8, 16, 16, 16, 32, 32])
        for limit in (16, 31, 32):
            self.assertEqual(heals(part, PASS, "missed", [first, second, cure], limit=limit), [(cure,)])
        self.assertEqual(refusal(heals, part, PASS, "missed", [first, second, cure], limit=15), (LimitExceeded, 15))
        self.assertEqual(heals(part, PASS, "missed", [first, second], limit=32), [])
        self.assertEqual(refusal(heals, part, PASS, "missed", [first, second], limit=31), (LimitExceeded, 31))
        self.assertEqual(heals(part, PASS, "old", [first, second], limit=8), [()])


class RulesFree(unittest.TestCase):

    def told(self, rules):
        return [(rule.batch, rule.same) for rule in rules]

    def test_against_the_books(self):
        seen = {}
        for number, part in enumerate(ALL):
            books = [Book(part, rule) for rule in RULES]
            if max(len(book) for book in books) < 30:
                for kinds in [KINDS[number % 10:number % 10 + 1], ["stale", "needless"], ("round", "slip", "full"),
                              list(KINDS)]:
                    expected = [rule for rule, book in zip(RULES, books) if all(book.is_free(kind) for kind in kinds)]
                    found = rules_free(part, kinds)
                    self.assertEqual(self.told(found), self.told(expected))
                    seen[len(found)] = seen.get(len(found), 0) + 1
        self.assertTrue(all(seen.get(many, 0) > 2 for many in (0, 2, 4)), seen)

    def test_the_example(self):
        self.assertEqual([len(rules_free(STALE, ["stale"])), len(rules_free(STALE, ["needless"]))], [0, 4])

    def test_no_kinds(self):
        for part in (STALE, NEVER, EMPTY, MIXED):
            for kinds in ([], ()):
                self.assertEqual(self.told(rules_free(part, kinds)), self.told(RULES))

    def test_some_rules(self):
        self.assertEqual(self.told(rules_free(NEVER, ["round"])), self.told([PASS, EACH]))
        part = screen(CELL, handler(TURN_A, SAY_X, TURN_A), effect(SAY_A, slots=("a", "q")))
        self.assertTrue(all(rule == other for rule, other in zip(rules_free(part, ["stale"]), RULES)))
        self.assertIsInstance(rules_free(part, [])[0], Rule)
        part = screen(CELL, handler(TURN_A, TURN_A), effect(SAY_X, slots=("a",)))
        self.assertEqual(self.told(rules_free(part, ("needless", "stale"))), self.told([PASS, CALL]))
        part = screen(CELL, handler(("set", "a", "a")), effect(SAY_X, slots=None), inputs=("x",))
        self.assertEqual(self.told(rules_free(part, ["slip", "round"])), self.told(RULES))

    def test_bounds(self):
        self.assertEqual(self.told(rules_free(BACK, ["round"], most=1)), [])
        self.assertEqual(self.told(rules_free(BACK, ["round"], most=2)), self.told(RULES))
        self.assertEqual([len(rules_free(FIFTY, ["round"])), len(rules_free(FIFTY_ONE, ["round"])),
                          len(rules_free(FIFTY_ONE, ["round"], most=51))], [4, 0, 4])

    def test_new_lists(self):
        rules_free(STALE, []).clear()
        kinds = ["stale", "old"]
        rules_free(STALE, kinds).append(1)
        self.assertEqual([len(rules_free(STALE, [])), kinds], [4, ["stale", "old"]])

    def test_wrong_bounds_and_kinds(self):
        for value in BAD_BOUNDS:
            self.assertEqual(refusal(rules_free, STALE, [], most=value), (InvalidBound, value))
            if value not in (501, 502):
                self.assertEqual(refusal(rules_free, STALE, ["no"], limit=value), (InvalidBound, value))
        self.assertEqual(refusal(rules_free, STALE, ["no"], most=0, limit=10001), (InvalidBound, 0))
        self.assertEqual(refusal(rules_free, STALE, ["no"], limit=10001), (InvalidBound, 10001))
        for kinds, first in ((["no"], "no"), (["stale", "no", ""], "no"), (("", "stale"), ""), (["Stale"], "Stale")):
            self.assertEqual(refusal(rules_free, STALE, kinds, limit=1), (InvalidKind, first))
        for most, limit in ((1, 10000), (500, 2)):
            self.assertIsNone(refusal(rules_free, STALE, ["stale"], most=most, limit=limit))

    def test_too_many_standings_under_one_of_the_rules(self):
        differing = 0
        for part in ALL:
            many = [len(Book(part, rule)) for rule in RULES]
            if 1 < max(many) < 60:
                differing += min(many) < max(many)
                for kinds in ([], ["stale"], ["slip", "round"]):
                    self.assertIsNone(refusal(rules_free, part, kinds, limit=max(many)))
                    self.assertEqual(refusal(rules_free, part, kinds, limit=max(many) - 1),
                                     (LimitExceeded, max(many) - 1))
        self.assertGreater(differing, 3)

    def test_counts_and_no_inputs(self):
        for part in (COUNTS, NO_INPUTS, NO_ROWS, EMPTY):
            self.assertEqual(self.told(rules_free(part, KINDS)), self.told([rule for rule in RULES if
                                                                           not Book(part, rule).faults()]))
        self.assertEqual(self.told([EACH_CALL]), [("each", "call")])


if __name__ == "__main__":
    unittest.main()
