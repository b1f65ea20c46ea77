"""Points 14 and 15: which values are standings of a part."""

import copy
import itertools
import unittest

from calledanew.parts import Part
from calledanew.standings import is_standing
from deeds import GO, RULES, SWAP, TICK, WORDS, go_on, start
from samples import nested, rich_part, with_item

PART = Part(WORDS, ("x",), ("go", "stop"), (
    ("cell", "a", "off"),
    ("box", "b", "on"),
    ("kept", "k", "x", SWAP, ("x", "a")),
    ("effect", ("x",), (("say", "x"), ("turn", "a", SWAP), ("later", (("write", "b", "a"),))),
     (("say", "a"), ("fetch", "b", "z"))),
    ("effect", None, (("say", "a"),), ()),
    ("handler", "go", None, (("set", "a", "x"), ("later", (("say", "x"),)))),
    ("handler", "go", ("a",), (("say", "a"),)),
    ("handler", "stop", (), (("write", "b", "x"),)),
    ("show", "a"),
    ("if", "x", "on", (("cell", "c", "on"),), (("box", "d", "off"),)),
))
STANDING = (
    ("off", "on", "off", "on", "off"),
    ((0,), (1,), (2,), (3,), (4,), (5,), (6,), (7,), (9, 0, 0)),
    (("cell", "on"),
     ("box", "off"),
     ("kept", "on", ("off", "on")),
     ("effect", (3,), ("off",), (("on", "off"), (0, 1)), (("on",), (1,))),
     ("effect", (4,), None, (("on",), ()), ((), ())),
     ("handler", (5,), None, (("off",), (0,))),
     ("handler", (6,), ("on",), (("on",), ())),
     ("handler", (7,), (), (("off",), (1,))),
     ("cell", "off")),
    (((3, 0, 2, 0), ("off",), (1,)), ((5, 0, 1, 0), ("on",), ())),
    ("on", "off"),
)
# The tuples that may have one item more or less: lists of words, what waits, what is shown.
FREE = [(2, 2, 2), (2, 3, 2), (2, 6, 2), (2, 7, 2), (3,), (4,)]
# Lists of words of effects and handlers, which may be None.
LISTS = [(2, 3, 2), (2, 4, 2), (2, 5, 2), (2, 6, 2), (2, 7, 2)]
# Numbers that lead to entries, each with the kind of its entry.
NUMBERS = {(2, 3, 3, 1, 0): "cell", (2, 3, 3, 1, 1): "box", (2, 3, 4, 1, 0): "box", (2, 5, 3, 1, 0): "cell",
           (2, 7, 3, 1, 0): "box", (3, 0, 2, 0): "box"}


def positions(value, path=()):
    """All places inside nested tuples, with what stands there."""
    yield path, value
    if isinstance(value, tuple):
        for at, item in enumerate(value):
            yield from positions(item, path + (at,))


def placed(path, item, value=STANDING):
    """The standing with another item at one place."""
    if not path:
        return item
    return with_item(value, path[0], placed(path[1:], item, value[path[0]]))


class Accepted(unittest.TestCase):

    def right(self, value, part=PART):
        self.assertIs(is_standing(part, value), True, value)

    def test_the_standing_of_these_tests(self):
        self.assertEqual(PART.slots(), ("x", "a", "c", "k", "z"))
        self.right(STANDING)
        self.right(copy.deepcopy(STANDING))

    def test_standings_of_histories(self):
        part = rich_part()
        for rule in RULES:
            first = start(part, ("on", "off"), rule)
            self.right(first.after, part)
            for events in itertools.product([GO, ("press", "stop"), TICK, ("hand", "x", "on")], repeat=3):
                try:
                    after = go_on(part, first.after, *events, rule=rule).after
                except ValueError:
                    continue
                self.right(after, part)

    def test_a_part_without_anything(self):
        part = Part(WORDS, (), (), ())
        self.assertEqual(start(part).after, ((), (), (), (), ()))
        self.right(((), (), (), (), ()), part)
        self.assertIs(is_standing(part, ((), (), (), (), ("off",) * 16)), True)
        self.assertIs(is_standing(part, (("off",), (), (), (), ())), False)

    def test_every_word_of_the_part_at_the_place_of_a_word(self):
        count = 0
        for path, item in positions(STANDING):
            if isinstance(item, str) and item in WORDS:
                count += 1
                for word in WORDS:
                    self.right(placed(path, word))
        self.assertGreater(count, 20)

    def test_none_at_the_place_of_a_number_or_a_list(self):
        for path in list(NUMBERS) + LISTS:
            self.right(placed(path, None))

    def test_the_numbers_of_all_entries_of_the_kind(self):
        kinds = [entry[0] for entry in STANDING[2]]
        for path, kind in NUMBERS.items():
            for number, other in enumerate(kinds):
                self.assertIs(is_standing(PART, placed(path, number)), kind == other, (path, number))

    def test_lists_of_words_of_any_length_up_to_four(self):
        for path in LISTS + [(2, 2, 2)]:
            for count in range(5):
                self.right(placed(path, ("on",) * count))
            self.assertIs(is_standing(PART, placed(path, ("on",) * 5)), False)

    def test_entries_that_are_from_another_row(self):
        self.right(placed((2, 4), STANDING[2][3]))
        self.right(placed((2, 3), STANDING[2][4]))
        self.right(placed((2, 6), STANDING[2][5]))
        self.right(placed((2, 5), STANDING[2][6]))

    def test_hooks_that_stand_in_both_halves_of_an_if_row(self):
        value = placed((1,), STANDING[1] + ((9, 1, 0),))
        self.assertIs(is_standing(PART, value), False)
        self.right(with_item(value, 2, STANDING[2] + (("box", "on"),)))

    def test_fewer_hooks_than_any_call_does(self):
        self.right((STANDING[0], (), (), (), ()))
        self.right((STANDING[0], ((0,), (9, 0, 0)), (("cell", "on"), ("cell", "on")), (), ()))

    def test_zero_to_three_that_wait(self):
        function = STANDING[3][0]
        for count in range(6):
            self.assertIs(is_standing(PART, placed((3,), (function,) * count)), count <= 3)

    def test_zero_to_sixteen_shown_words(self):
        for count in (0, 1, 15, 16, 17, 18, 100):
            self.assertIs(is_standing(PART, placed((4,), ("on",) * count)), count <= 16)

    def test_nothing_that_no_row_reaches_is_asked(self):
        self.right(placed((0,), ("off",) * 5))
        self.right(placed((0,), ("on",) * 5))
        self.right(placed((2, 4, 2), ("on", "on", "on", "on")))


class Refused(unittest.TestCase):

    def wrong(self, value, part=PART):
        self.assertIs(is_standing(part, value), False, value)

    def test_an_item_left_out_doubled_or_added(self):
        for path, item in positions(STANDING):
            if isinstance(item, tuple):
                with self.subTest(path=path):
                    self.wrong(placed(path, item + (None,)))
                    self.wrong(placed(path, item + ((),)))
                    for at in range(len(item) if path not in FREE else 0):
                        self.wrong(placed(path, item[:at] + item[at + 1:]))
                        self.wrong(placed(path, item[:at + 1] + item[at:]))

    def test_lists_and_dicts_in_the_place_of_tuples(self):
        for path, item in positions(STANDING):
            if isinstance(item, tuple):
                self.wrong(placed(path, list(item)))
                self.wrong(placed(path, {}))
                self.wrong(placed(path, {value: value for value in item}))
                self.wrong(placed(path, ""))

    def test_values_of_another_sort_at_every_place(self):
        for path, item in positions(STANDING):
            for value in (True, False, -1, 9, 10, 99, 10 ** 30, "", "maybe", "OFF", "x", [], {}, {"on": "on"}, ["on"],
                          ((),), ([],), ({},), (True,), (0, True)):
                if value != item:
                    self.wrong(placed(path, value))

    def test_none_where_it_may_not_stand(self):
        for path, item in positions(STANDING):
            if path not in NUMBERS and path not in LISTS:
                self.wrong(placed(path, None))

    def test_flags_in_the_place_of_numbers(self):
        for path, item in positions(STANDING):
            if item in (0, 1) and not isinstance(item, tuple):
                self.wrong(placed(path, bool(item)))

    def test_values_that_are_no_tuples_or_nested_deep(self):
        for value in [None, True, 0, 5, "standing", [], {}, (), ((),) * 5, list(STANDING)] + list(nested(20)):
            self.wrong(value)
        for path, item in positions(STANDING):
            for value in nested(20 - len(path)):
                self.wrong(placed(path, value))

    def test_hooks_out_of_order_or_twice(self):
        hooks, entries = STANDING[1:3]
        for first, second in itertools.combinations(range(len(hooks)), 2):
            order = list(range(len(hooks)))
            order[first], order[second] = second, first
            value = with_item(STANDING, 1, tuple([hooks[number] for number in order]))
            self.wrong(value)
            self.wrong(with_item(value, 2, tuple([entries[number] for number in order])))
        plain = (("off",) * 5, ((0,), (0,)), (("cell", "on"), ("cell", "on")), (), ())
        self.wrong(plain)

    def test_paths_that_are_no_hooks(self):
        for path in [(), (8,), (9,), (10,), (-1,), (9, 0, 1), (9, 2, 0), (3, 0), (3, 0, 0), (9, 0), (True,),
                     (9, False, 0)]:
            self.wrong((STANDING[0], (path,), (("cell", "on"),), (), ()))

    def test_entries_of_another_kind_than_the_row(self):
        for number, entry in enumerate(STANDING[2]):
            for other in STANDING[2]:
                if other[0] != entry[0]:
                    self.wrong(placed((2, number), other))

    def test_paths_of_entries(self):
        for path in [(), (0,), (5,), (8,), (99,), (3, 0), (4, 0, 0), [3], "3", (True,), None]:
            self.wrong(placed((2, 3, 1), path))
        for path in [(), (0,), (3,), (7,), (8,), (5, 0), (6, 0, 0), [5], None]:
            self.wrong(placed((2, 5, 1), path))
        for path in [(5,), (6,)]:
            self.wrong(placed((2, 7, 1), path))

    def test_a_handler_entry_from_a_row_with_another_event(self):
        self.wrong(placed((2, 7), STANDING[2][6]))
        self.wrong(placed((2, 7), STANDING[2][5]))
        self.wrong(placed((2, 6), STANDING[2][7]))

    def test_functions_that_wait_are_those_of_later_rows(self):
        for path in [(), (3,), (3, 0), (3, 1), (5, 0), (3, 0, 2), (3, 0, 2, 1), (3, 0, 2, 0, 0), (3, 0, 0, 0),
                     (3, 0, 2, False), [3, 0, 2, 0], None, "later"]:
            self.wrong(placed((3, 0, 0), path))
        self.wrong(placed((3,), (((5, 0), ("off",), (0,)),)))

    def test_made_functions_of_another_function(self):
        self.wrong(placed((2, 3, 3), STANDING[2][3][4]))
        self.wrong(placed((2, 3, 4), STANDING[2][3][3]))
        self.wrong(placed((3, 0), ((5, 0, 1, 0),) + STANDING[3][0][1:]))

    def test_a_standing_of_another_part(self):
        self.wrong(start(rich_part(), ("on", "off")).after)
        self.wrong(STANDING, rich_part())


class SameAnswer(unittest.TestCase):

    def test_asked_again_and_of_other_parts_between(self):
        other = rich_part()
        standing = start(other, ("on", "off")).after
        for count in range(3):
            self.assertTrue(is_standing(PART, STANDING))
            self.assertFalse(is_standing(other, STANDING))
            self.assertTrue(is_standing(other, standing))

    def test_the_value_is_not_modified(self):
        value = [list(STANDING), {"a": [STANDING]}]
        before = copy.deepcopy(value)
        is_standing(PART, value)
        is_standing(PART, with_item(STANDING, 2, value))
        self.assertEqual(value, before)


if __name__ == "__main__":
    unittest.main()
