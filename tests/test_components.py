"""Points 4 and 10: the four components, equality, and words, inputs and events (point 9, 1)."""

import copy
import itertools
import unittest

from calledanew.parts import Part
from samples import BAD_NAMES, EVENTS, INPUTS, RICH_FUNCTIONS, RICH_ROWS, WORDS, nested, refused, rich_part

ROWS = (("cell", "a", "off"), ("show", "a"))
LETTERS = tuple("abcdefghij")
NO_TUPLES = [None, True, 0, 2, "", "ab", ["off", "on"], [], {}, {"off": 1, "on": 2}]


class Components(unittest.TestCase):

    def test_they_are_as_passed(self):
        components = (WORDS, INPUTS, EVENTS, ROWS)
        part = Part(*components)
        for found, passed in zip((part.words, part.inputs, part.events, part.rows), components):
            self.assertIs(found, passed)

    def test_arguments_have_their_names(self):
        self.assertTrue(Part(rows=ROWS, events=EVENTS, inputs=INPUTS, words=WORDS)
                        == Part(WORDS, INPUTS, EVENTS, ROWS))

    def test_greatest_and_least_numbers(self):
        for count in (2, 3, 4):
            self.assertIsNone(refused(LETTERS[:count], (), (), ()))
        for count in (0, 1, 2):
            self.assertIsNone(refused(WORDS, LETTERS[:count], (), ()))
        for count in (0, 1, 2, 3):
            self.assertIsNone(refused(WORDS, (), LETTERS[:count], ()))

    def test_longest_and_shortest_names(self):
        for name in ("a", "z", "abcdefgh", "zzzzzzzz"):
            self.assertIsNone(refused((name, "on"), (name,), (name,), (("cell", "c", name), ("box", name, name))))

    def test_the_same_name_may_be_used_for_everything(self):
        rows = (("cell", "b", "a"), ("box", "a", "b"), ("box", "b", "b"), ("show", "a"),
                ("effect", ("a", "b"), (("set", "b", "a"), ("write", "a", "b")), ()),
                ("handler", "a", ("a",), (("fetch", "b", "a"),)))
        part = Part(("a", "b"), ("a",), ("a", "b"), rows)
        self.assertEqual(part.slots(), ("a", "b"))
        self.assertEqual(part.links((4, 0)), (("cell", "b"), ("box", "a")))


class Equality(unittest.TestCase):

    def test_equal_if_all_four_are(self):
        first = rich_part()
        second = rich_part()
        self.assertTrue(first == second)
        self.assertFalse(first != second)
        self.assertTrue(first == Part(first.words, first.inputs, first.events, first.rows))

    def test_one_component_changed_at_a_time(self):
        base = (WORDS, ("x", "y"), ("go", "stop"), ROWS)
        others = [
            [("on", "off"), ("off", "on", "no"), ("off", "no")],
            [("y", "x"), ("x",), (), ("x", "z")],
            [("stop", "go"), ("go",), (), ("go", "stop", "on")],
            [(), ROWS[:1], (ROWS[0], ("show", "b")), (("cell", "a", "on"), ROWS[1]), ROWS + (("show", "a"),),
             (("cell", "a", "off"), ("put", "a", "off"))],
        ]
        for at, values in enumerate(others):
            for value in values:
                changed = base[:at] + (value,) + base[at + 1:]
                with self.subTest(at=at, value=value):
                    self.assertFalse(Part(*base) == Part(*changed))
                    self.assertTrue(Part(*base) != Part(*changed))
                    self.assertTrue(Part(*changed) == Part(*changed))

    def test_a_list_of_none_is_not_an_empty_list(self):
        first = Part(WORDS, (), (), (("effect", None, (), ()),))
        second = Part(WORDS, (), (), (("effect", (), (), ()),))
        self.assertFalse(first == second)

    def test_no_question_changes_a_part(self):
        part = rich_part()
        before = copy.deepcopy((part.words, part.inputs, part.events, part.rows))
        for path in RICH_ROWS:
            part.row_at(path)
            part.with_row(path, part.row_at(path))
        for path in RICH_FUNCTIONS:
            part.held(path)
            part.links(path)
        part.slots(), part.hooks(), part.functions(), part.row_paths(), part.is_steady()
        self.assertEqual((part.words, part.inputs, part.events, part.rows), before)
        self.assertTrue(part == rich_part())


class NamesOfAPart(unittest.TestCase):
    """Point 9, 1."""

    def wrong_tuples(self, fewest, most):
        """Values that are no tuple of `fewest` to `most` different names."""
        if fewest:
            yield LETTERS[:fewest - 1]
            yield ()
        yield LETTERS[:most + 1]
        yield LETTERS[:most + 2]
        yield from NO_TUPLES
        yield from nested(20)
        for count in range(max(fewest, 1), most + 1):
            for at, bad in itertools.product(range(count), BAD_NAMES):
                yield LETTERS[:at] + (bad,) + LETTERS[at + 1:count]
            for first, second in itertools.combinations(range(count), 2):
                twice = list(LETTERS[:count])
                twice[second] = twice[first]
                yield tuple(twice)
            yield list(LETTERS[:count])
            yield (LETTERS[:count],)

    def test_words(self):
        for value in self.wrong_tuples(2, 4):
            with self.subTest(value=value):
                self.assertEqual(refused(value, INPUTS, EVENTS, ()), ("words", ()))

    def test_inputs(self):
        for value in self.wrong_tuples(0, 2):
            with self.subTest(value=value):
                self.assertEqual(refused(WORDS, value, EVENTS, ()), ("inputs", ()))

    def test_events(self):
        for value in self.wrong_tuples(0, 3):
            with self.subTest(value=value):
                self.assertEqual(refused(WORDS, INPUTS, value, ()), ("events", ()))

    def test_the_first_of_them_is_named(self):
        wrong = [None, [], ("A",), ("a", "a"), 0]
        for value in wrong:
            with self.subTest(value=value):
                self.assertEqual(refused(value, value, value, value), ("words", ()))
                self.assertEqual(refused(WORDS, value, value, value), ("inputs", ()))
                self.assertEqual(refused(WORDS, INPUTS, value, value), ("events", ()))
                self.assertEqual(refused(value, INPUTS, EVENTS, (None,)), ("words", ()))
                self.assertEqual(refused(value, INPUTS, value, ()), ("words", ()))

    def test_they_come_before_the_rows(self):
        for rows in (None, [], (None,), (("cell", "x", "off"),), (("show", "x"),) * 17):
            with self.subTest(rows=rows):
                self.assertEqual(refused(("off",), INPUTS, EVENTS, rows), ("words", ()))
                self.assertEqual(refused(WORDS, ("x", "x"), EVENTS, rows), ("inputs", ()))
                self.assertEqual(refused(WORDS, INPUTS, ("go", "go"), rows), ("events", ()))


if __name__ == "__main__":
    unittest.main()
