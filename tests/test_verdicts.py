"""Point 41: verdicts."""

import itertools
import random
import unittest

from calledanew.errors import InvalidKind
from calledanew.judge import KINDS
from calledanew.verdicts import Verdict

PATHS = [(), (0,), (0, 0), (0, 0, 3), (0, 1), (0, 2), (0, 10), (1,), (1, 0), (2,), (10,), (10, 0, 0)]
EVERY = [(kind, path) for kind in KINDS for path in PATHS]


def drawn(seed, many):
    return random.Random(seed).choices(EVERY, k=many)


class Pairs(unittest.TestCase):

    def test_no_pair(self):
        for pairs in ([], ()):
            verdict = Verdict(pairs)
            self.assertEqual([verdict.pairs(), verdict.kinds(), len(verdict), bool(verdict)], [[], [], 0, False])

    def test_the_order_of_kinds_and_of_paths(self):
        for seed in range(20):
            shuffled = list(EVERY)
            random.Random(seed).shuffle(shuffled)
            self.assertEqual(Verdict(shuffled).pairs(), EVERY)
            self.assertEqual(Verdict(tuple(shuffled)).pairs(), EVERY)
            self.assertEqual(Verdict(shuffled).kinds(), list(KINDS))

    def test_paths_are_compared_as_numbers_and_a_beginning_comes_first(self):
        self.assertEqual(Verdict([("old", (10,)), ("old", (9,)), ("old", (9, 11)), ("old", (9, 2)), ("old", ()),
                                  ("mixed", (99,))]).pairs(),
                         [("mixed", (99,)), ("old", ()), ("old", (9,)), ("old", (9, 2)), ("old", (9, 11)),
                          ("old", (10,))])

    def test_duplicates_count_once(self):
        verdict = Verdict([("slip", (1,)), ("old", (1,)), ("slip", (1,)), ("slip", (1, 0)), ("old", (1,))])
        self.assertEqual(verdict.pairs(), [("old", (1,)), ("slip", (1,)), ("slip", (1, 0))])
        self.assertEqual([len(verdict), verdict.kinds()], [3, ["old", "slip"]])
        for seed in range(30):
            pairs = drawn(seed, 40)
            self.assertEqual(Verdict(pairs).pairs(), [pair for pair in EVERY if pair in pairs])
            self.assertEqual(len(Verdict(pairs)), len(set(pairs)))

    def test_a_kind_that_is_not_one(self):
        for kinds, first in [(["maybe"], "maybe"), (["old", ""], ""), (["no", "nor"], "no"), (["nor", "no"], "nor"),
                             (["slip", "Old", "old", "NO"], "Old"), (["olds"], "olds"), (["ol"], "ol")]:
            for make in (list, tuple):
                with self.assertRaises(InvalidKind) as caught:
                    Verdict(make([(kind, (0,)) for kind in kinds]))
                self.assertEqual(caught.exception.kind, first)

    def test_truth_length_and_in(self):
        for seed in range(20):
            pairs = drawn(seed, seed)
            verdict = Verdict(pairs)
            self.assertIs(bool(verdict), seed > 0)
            for pair in EVERY + [("nokind", (0,)), ("old", (0, 0, 0, 0)), ("old", (7,))]:
                self.assertIs(pair in verdict, pair in pairs)

    def test_new_lists(self):
        given = [("old", (1,)), ("mixed", (0,))]
        verdict = Verdict(given)
        self.assertEqual(given, [("old", (1,)), ("mixed", (0,))])
        given.append(("slip", ()))
        verdict.pairs().clear()
        verdict.kinds().append("slip")
        self.assertEqual([verdict.pairs(), verdict.kinds()], [[("mixed", (0,)), ("old", (1,))], ["mixed", "old"]])


class Only(unittest.TestCase):

    def test_some_kinds(self):
        for seed in range(30):
            pairs = drawn(seed, 30)
            verdict = Verdict(pairs)
            kinds = random.Random(seed).sample(KINDS, seed % 5)
            for given in (kinds, tuple(kinds), kinds + kinds, kinds + ["no", ""]):
                self.assertEqual(verdict.only(given).pairs(),
                                 [pair for pair in EVERY if pair in pairs and pair[0] in kinds])
            self.assertEqual(verdict.pairs(), [pair for pair in EVERY if pair in pairs])

    def test_no_kind_and_strings_that_are_none(self):
        verdict = Verdict(EVERY)
        for given in ([], (), ["no"], ["", "ol", "olds", "Old"]):
            self.assertEqual(verdict.only(given).pairs(), [])
            self.assertFalse(verdict.only(given))
        self.assertEqual(verdict.only(KINDS), verdict)
        self.assertIsNot(verdict.only(KINDS), verdict)


class Signs(unittest.TestCase):

    def test_both_one_and_the_first_alone(self):
        for seed in range(60):
            first, second = drawn(seed, seed % 9 * 5), drawn(seed + 100, seed % 7 * 6)
            left, right = Verdict(first), Verdict(second)
            for made, expected in [(left | right, set(first) | set(second)), (left & right, set(first) & set(second)),
                                   (left - right, set(first) - set(second)), (right - left, set(second) - set(first))]:
                self.assertIsInstance(made, Verdict)
                self.assertEqual(made.pairs(), [pair for pair in EVERY if pair in expected])
            self.assertEqual([left.pairs(), right.pairs()],
                             [[pair for pair in EVERY if pair in pairs] for pairs in (first, second)])

    def test_new_verdicts(self):
        left, right = Verdict(EVERY[:5]), Verdict([])
        for made in (left | right, left - right, right | left, left & left, left | left):
            self.assertEqual(made, left)
            self.assertIsNot(made, left)

    def test_in_place_the_name_gets_a_new_verdict(self):
        for change in ("|", "&", "-"):
            first = Verdict(EVERY[:5])
            name = first
            if change == "|":
                name |= Verdict(EVERY[3:8])
            elif change == "&":
                name &= Verdict(EVERY[3:8])
            else:
                name -= Verdict(EVERY[3:8])
            self.assertEqual(first.pairs(), EVERY[:5])
            self.assertEqual(name.pairs(), {"|": EVERY[:8], "&": EVERY[3:5], "-": EVERY[:3]}[change])

    def test_equal(self):
        for first, second in itertools.product(range(12), repeat=2):
            left, right = Verdict(drawn(first % 6, 5 + first % 6)), Verdict(drawn(second % 6, 5 + second % 6)[::-1])
            self.assertIs(left == right, first % 6 == second % 6)
            self.assertIs(left != right, first % 6 != second % 6)
        self.assertTrue(Verdict([]) == Verdict(()))
        self.assertFalse(Verdict([("old", (0,))]) == Verdict([("old", (0, 0))]))
        self.assertFalse(Verdict([("old", (0,))]) == Verdict([("stale", (0,))]))


if __name__ == "__main__":
    unittest.main()
