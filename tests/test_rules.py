"""Point 13: rules."""

import unittest

from calledanew.errors import InvalidRule
from calledanew.rules import Rule, all_rules
from samples import nested

PAIRS = [("together", "pass"), ("together", "call"), ("each", "pass"), ("each", "call")]
WRONG = ["", "Together", "together ", "both", None, True, 0, ("together",), ["each"], {}, {"pass": "call"}]


class Rules(unittest.TestCase):

    def refused(self, batch, same):
        with self.assertRaises(InvalidRule) as caught:
            Rule(batch, same)
        return caught.exception.part

    def test_components_are_as_passed(self):
        for batch, same in PAIRS:
            rule = Rule(batch, same)
            self.assertEqual((rule.batch, rule.same), (batch, same))

    def test_arguments_have_their_names(self):
        self.assertTrue(Rule(same="call", batch="each") == Rule("each", "call"))

    def test_wrong_batch(self):
        for value in WRONG + ["pass", "call"] + list(nested(20)):
            with self.subTest(value=value):
                self.assertEqual(self.refused(value, "pass"), "batch")

    def test_wrong_same(self):
        for value in WRONG + ["together", "each"] + list(nested(20)):
            with self.subTest(value=value):
                self.assertEqual(self.refused("each", value), "same")

    def test_batch_is_refused_before_same(self):
        for value in WRONG + list(nested(20)):
            with self.subTest(value=value):
                self.assertEqual(self.refused(value, value), "batch")
        self.assertEqual(self.refused("pass", "together"), "batch")

    def test_equal_exactly_if_both_components_are(self):
        for first in PAIRS:
            for second in PAIRS:
                with self.subTest(first=first, second=second):
                    self.assertIs(Rule(*first) == Rule(*second), first == second)
                    self.assertIs(Rule(*first) != Rule(*second), first != second)

    def test_all_rules_in_order(self):
        self.assertEqual([(rule.batch, rule.same) for rule in all_rules()], PAIRS)
        self.assertIsInstance(all_rules(), list)
        for rule in all_rules():
            self.assertIsInstance(rule, Rule)

    def test_all_rules_is_a_new_list_each_time(self):
        first = all_rules()
        first.pop()
        first[0] = None
        self.assertEqual([(rule.batch, rule.same) for rule in all_rules()], PAIRS)


if __name__ == "__main__":
    unittest.main()
