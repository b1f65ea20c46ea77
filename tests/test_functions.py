"""Points 11 and 12: held slots and links of functions."""

import itertools
import random
import unittest

from calledanew.errors import InvalidPath
from calledanew.parts import Part
from samples import (NO_PATHS, RICH_FUNCTIONS, RICH_ROWS, SWAP, effect, either, handler, later, nested, part_of,
                     rich_part)

SAY = ("say", "s")
PUT = ("put", "s", "on")
FETCH = ("fetch", "b", "s")
MAP = ("map", "s", "f", SWAP)
READERS = [SAY, ("set", "a", "s"), ("write", "b", "s"), ("map", "m", "s", SWAP), ("if", "s", "on", (), ())]
CHANGERS = [PUT, FETCH, ("map", "s", "s", SWAP)]


def held(*rows):
    """The held slots of a function with these rows, which is the same wherever it stands."""
    part = part_of(handler(*rows))
    found = part.held((2, 0))
    assert part_of(effect(*rows)).held((2, 0)) == found
    if not any(row[0] == "later" for row in rows):
        assert part_of(effect(clean=rows)).held((2, 1)) == found
        assert part_of(handler(later(*rows))).held((2, 0, 0, 0)) == found
    return found


def ways(rows):
    """All ways through the rows: lists of rows in which an if row is only its reading."""
    found = [[]]
    for row in rows:
        if row[0] == "if":
            tails = [[("say", row[1])] + way for half in row[3:] for way in ways(half)]
        else:
            tails = [[row]]
        found = [head + tail for head in found for tail in tails]
    return found


def held_by_ways(rows):
    """Held slots as point 11 says it, way by way."""
    slots = set()
    for way in ways(rows):
        changed = set()
        for row in way:
            reads = {"say": row[1:2], "set": row[2:], "write": row[2:], "map": row[2:3]}.get(row[0], ())
            if row[0] == "later":
                reads = held_by_ways(row[1])
            slots.update(set(reads) - changed)
            if row[0] in ("put", "map"):
                changed.add(row[1])
            if row[0] == "fetch":
                changed.add(row[2])
    return tuple(sorted(slots))


class Held(unittest.TestCase):

    def test_each_reading_row(self):
        for row in READERS:
            with self.subTest(row=row):
                self.assertEqual(held(row), ("s",))
                self.assertEqual(held(PUT, row), ())
                self.assertEqual(held(row, PUT), ("s",))
                self.assertEqual(held(("put", "t", "on"), row), ("s",))

    def test_each_changing_row(self):
        self.assertEqual(held(PUT), ())
        self.assertEqual(held(FETCH), ())
        self.assertEqual(held(FETCH, SAY), ())
        self.assertEqual(held(SAY, FETCH), ("s",))
        self.assertEqual(held(MAP), ("f",))
        self.assertEqual(held(MAP, SAY), ("f",))
        self.assertEqual(held(("put", "f", "on"), MAP, SAY), ())
        self.assertEqual(held(("map", "s", "s", SWAP)), ("s",))
        self.assertEqual(held(PUT, ("map", "s", "s", SWAP), SAY), ())

    def test_rows_that_neither_read_nor_change(self):
        self.assertEqual(held(("turn", "a", SWAP)), ())
        self.assertEqual(held(("turn", "a", SWAP), ("say", "a")), ("a",))
        self.assertEqual(held(("set", "a", "t"), ("say", "a")), ("a", "t"))
        self.assertEqual(held(("write", "b", "t"), ("say", "b")), ("b", "t"))

    def test_the_empty_function(self):
        self.assertEqual(held(), ())
        self.assertEqual(part_of(effect()).held((2, 1)), ())
        self.assertEqual(part_of(handler(later())).held((2, 0, 0, 0)), ())

    def test_ascending_order_without_duplicates(self):
        self.assertEqual(held(("say", "z"), ("say", "b"), ("say", "ab"), ("say", "a"), ("say", "z"), ("set", "a", "b")),
                         ("a", "ab", "b", "z"))

    def test_if_rows_where_only_one_way_changes(self):
        for change in (PUT, FETCH, MAP):
            others = ("f",) if change == MAP else ()
            with self.subTest(change=change):
                self.assertEqual(held(either(change), SAY), tuple(sorted(others + ("s", "x"))))
                self.assertEqual(held(either(other=(change,)), SAY), tuple(sorted(others + ("s", "x"))))
                self.assertEqual(held(either(change, other=(change,)), SAY), others + ("x",))
                self.assertEqual(held(either(change, SAY)), others + ("x",))
                self.assertEqual(held(either(change, other=(SAY,))), tuple(sorted(others + ("s", "x"))))

    def test_reading_in_one_way_alone(self):
        self.assertEqual(held(either(SAY, other=(PUT,))), ("s", "x"))
        self.assertEqual(held(either(SAY)), ("s", "x"))
        self.assertEqual(held(either(other=(SAY,))), ("s", "x"))
        self.assertEqual(held(PUT, either(SAY)), ("x",))

    def test_two_if_rows_over_the_same_slot(self):
        first = either(PUT, slot="x")
        self.assertEqual(held(first, either(SAY, slot="x")), ("s", "x"))
        self.assertEqual(held(first, either(other=(PUT,), slot="x"), SAY), ("s", "x"))
        self.assertEqual(held(either(("put", "x", "off")), either(SAY, slot="x")), ("s", "x"))
        self.assertEqual(held(("put", "x", "off"), either(PUT), either(SAY)), ("s",))
        self.assertEqual(held(either(slot="s"), PUT, either(slot="s")), ("s",))
        self.assertEqual(held(PUT, either(slot="s"), either(slot="s")), ())

    def test_if_rows_inside_if_rows(self):
        self.assertEqual(held(either(either(PUT, other=(PUT,)), other=(PUT,)), SAY), ("x",))
        self.assertEqual(held(either(either(PUT), other=(PUT,)), SAY), ("s", "x"))
        self.assertEqual(held(either(either(PUT, other=(PUT,)), SAY, other=(PUT,))), ("x",))
        self.assertEqual(held(either(PUT, either(SAY, other=(SAY,)))), ("x",))
        self.assertEqual(held(either(("put", "y", "on"), either(slot="y"))), ("x",))

    def test_the_word_of_an_if_row_does_not_matter(self):
        self.assertEqual(held(either(PUT, word="off"), SAY), ("s", "x"))
        self.assertEqual(held(("put", "x", "on"), either(PUT, slot="x", word="on"), SAY), ("s",))

    def test_later_rows_read_what_they_hold(self):
        self.assertEqual(held(later(SAY)), ("s",))
        self.assertEqual(held(PUT, later(SAY)), ())
        self.assertEqual(held(later(SAY), PUT), ("s",))
        self.assertEqual(held(later(PUT, SAY)), ())
        self.assertEqual(held(later(MAP, SAY)), ("f",))
        self.assertEqual(held(later(either(PUT), SAY)), ("s", "x"))
        self.assertEqual(held(("put", "x", "on"), later(either(PUT), SAY)), ("s",))
        self.assertEqual(held(either(PUT), later(SAY)), ("s", "x"))
        self.assertEqual(held(either(PUT, other=(FETCH,)), later(SAY)), ("x",))

    def test_later_rows_change_nothing_on_the_way(self):
        self.assertEqual(held(later(PUT), SAY), ("s",))
        self.assertEqual(held(later(PUT, SAY), SAY), ("s",))
        self.assertEqual(held(later(FETCH), later(SAY)), ("s",))

    def test_each_function_of_a_part_by_itself(self):
        part = part_of(effect(SAY, later(("say", "t")), clean=(("say", "u"),)), handler(PUT, later(SAY)))
        self.assertEqual([part.held(path) for path in part.functions()],
                         [("s", "t"), ("t",), ("u",), (), ("s",)])

    def test_what_the_call_changes_does_not_matter(self):
        part = part_of(PUT, handler(SAY), PUT)
        self.assertEqual(part.held((3, 0)), ("s",))

    def test_inputs_cells_and_other_slots_are_held_alike(self):
        self.assertEqual(held(("say", "x"), ("say", "a"), ("say", "none")), ("a", "none", "x"))

    def test_more_than_four_slots(self):
        self.assertEqual(held(*[("say", name) for name in "gfedcba"]), tuple("abcdefg"))

    def test_rich_part(self):
        part = rich_part()
        self.assertEqual([part.held(path) for path in RICH_FUNCTIONS],
                         [("a",), (), ("x",), (), ("a", "x", "y"), ("a",), (), ("v",), (), ("v",)])

    def test_as_the_point_says_it_way_by_way(self):
        source = random.Random(11)
        for count in range(3000):
            rows = random_rows(source, 4, 2, True)
            part = Part(("off", "on"), (), ("go",), (("cell", "a", "on"), ("box", "b", "on"), handler(*rows)))
            self.assertEqual(part.held((2, 0)), held_by_ways(rows), rows)


def random_rows(source, most, depth, with_later):
    """Function rows over few slots, so that reads and changes meet often."""
    rows = []
    for count in range(source.randint(0, most)):
        one, two = source.choice("stu"), source.choice("stu")
        kinds = [("say", one), ("put", one, "on"), ("map", one, two, SWAP), ("fetch", "b", one), ("set", "a", one),
                 ("write", "b", one), ("turn", "a", SWAP)]
        if depth:
            half = [random_rows(source, 1, depth - 1, False) for number in (0, 1)]
            kinds += [("if", one, "on", half[0], half[1])] * 4
        if with_later:
            kinds += [("later", random_rows(source, 1, 1, False))]
        rows.append(source.choice(kinds))
    while count_rows(rows) > 8:
        rows.pop()
    return tuple(rows)


def count_rows(rows):
    inner = [half for row in rows for half in row if row[0] in ("if", "later") and isinstance(half, tuple)]
    return len(rows) + sum(count_rows(half) for half in inner)


class Links(unittest.TestCase):

    MADE = (("cell", "d", "off"), ("cell", "c", "off"), ("box", "f", "off"), ("box", "e", "off"),
            ("cell", "e", "off"), ("box", "c", "off"))

    def links(self, *rows):
        return part_of(*self.MADE, handler(*rows)).links((8, 0))

    def test_each_row_that_names_one(self):
        self.assertEqual(self.links(("set", "c", "x")), (("cell", "c"),))
        self.assertEqual(self.links(("turn", "c", SWAP)), (("cell", "c"),))
        self.assertEqual(self.links(("write", "c", "x")), (("box", "c"),))
        self.assertEqual(self.links(("fetch", "c", "x")), (("box", "c"),))

    def test_rows_that_name_none(self):
        self.assertEqual(self.links(), ())
        self.assertEqual(self.links(("say", "c"), ("put", "c", "on"), ("map", "d", "c", SWAP), either(slot="c"),
                                    later(("say", "d"))), ())

    def test_cells_then_boxes_ascending_each_once(self):
        rows = [("fetch", "f", "x"), ("turn", "e", SWAP), ("write", "c", "x"), ("set", "c", "x"), ("set", "d", "x"),
                ("fetch", "e", "x"), ("turn", "d", SWAP), ("write", "f", "x")]
        expected = (("cell", "c"), ("cell", "d"), ("cell", "e"), ("box", "c"), ("box", "e"), ("box", "f"))
        self.assertEqual(self.links(*rows), expected)
        self.assertEqual(self.links(*reversed(rows)), expected)

    def test_inside_if_rows_and_later_rows(self):
        rows = [either(("turn", "d", SWAP), other=(either(other=(("write", "f", "x"),)),)),
                later(("fetch", "e", "x"), either(("turn", "c", SWAP)))]
        part = part_of(*self.MADE, handler(*rows))
        self.assertEqual(part.links((8, 0)), (("cell", "c"), ("cell", "d"), ("box", "e"), ("box", "f")))
        self.assertEqual(part.links((8, 0, 1, 0)), (("cell", "c"), ("box", "e")))

    def test_body_and_clean_by_themselves(self):
        part = part_of(effect(("turn", "a", SWAP), clean=(("write", "b", "x"),)), effect())
        self.assertEqual([part.links(path) for path in part.functions()], [(("cell", "a"),), (("box", "b"),), (), ()])

    def test_rich_part(self):
        part = rich_part()
        cell, box = (("cell", "a"),), (("box", "b"),)
        self.assertEqual([part.links(path) for path in RICH_FUNCTIONS],
                         [cell, cell, (), box, (), (), (), cell, (), cell])

    def test_tuples(self):
        for path in RICH_FUNCTIONS:
            self.assertIs(type(rich_part().links(path)), tuple)
            self.assertIs(type(rich_part().held(path)), tuple)


class NoFunctions(unittest.TestCase):

    def test_both_refuse_what_is_no_path_of_a_function(self):
        part = rich_part()
        near = []
        for path in RICH_FUNCTIONS:
            near += [path[:-1], path + (0,), path + (99, 0), list(path), path[:-1] + (2,), path[:-1] + (-1,), str(path),
                     path[:-1] + (str(path[-1]),), path[:-1] + ([path[-1]],), path[:-1] + (None,), (path,), {path: 1}]
            near += [path[:at] + (item == 1,) + path[at + 1:] for at, item in enumerate(path) if item in (0, 1)]
        halves = [(1, 0), (1, 1), (1, 0, 1, 0), (2, 0, 0, 0), (2, 0, 0, 1), (0, 0), (4, 0), (3, 1), (2, 2), (2, 0, 1, 1)]
        for value in itertools.chain(NO_PATHS, RICH_ROWS, near, halves, nested(20)):
            for ask in (part.held, part.links):
                with self.subTest(value=value), self.assertRaises(InvalidPath) as caught:
                    ask(value)
                self.assertIs(caught.exception.path, value)


if __name__ == "__main__":
    unittest.main()
