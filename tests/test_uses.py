"""Point 9, 3: cells, boxes and inputs that rows name wrongly."""

import itertools
import unittest

from samples import EVENTS, INPUTS, SWAP, WORDS, effect, either, handler, later, refused

SAY = ("say", "x")
SHOW = ("show", "x")
CELL = ("cell", "a", "off")
BOX = ("box", "b", "off")

CELL_USERS = [("set", "a", "x"), ("turn", "a", SWAP)]
BOX_USERS = [("write", "b", "x"), ("fetch", "b", "y")]

# Where a row may stand: what it is put into, and its path there.
CALL_PLACES = [
    (lambda row: (row,), (0,)),
    (lambda row: (SHOW, row), (1,)),
    (lambda row: (either(row),), (0, 0, 0)),
    (lambda row: (either(SHOW, other=(SHOW, row)),), (0, 1, 1)),
    (lambda row: (either(either(either(other=(row,)))),), (0, 0, 0, 0, 0, 1, 0)),
]
FUNCTION_PLACES = [
    (lambda row: (effect(row),), (0, 0, 0)),
    (lambda row: (SHOW, effect(SAY, clean=(SAY, row))), (1, 1, 1)),
    (lambda row: (handler(SAY, row),), (0, 0, 1)),
    (lambda row: (handler(either(SAY, other=(either(row),))),), (0, 0, 0, 1, 0, 0, 0)),
    (lambda row: (effect(later(SAY, row)),), (0, 0, 0, 0, 1)),
    (lambda row: (handler(later(either(row))),), (0, 0, 0, 0, 0, 0, 0)),
    (lambda row: (effect(clean=(either(row),)),), (0, 1, 0, 0, 0)),
    (lambda row: (either(either(SHOW, effect(later(row)))),), (0, 0, 0, 0, 1, 0, 0, 0, 0)),
]


def refused_here(*rows, inputs=INPUTS):
    return refused(WORDS, inputs, EVENTS, rows)


class MadeTwice(unittest.TestCase):

    def test_a_second_cell_row_of_a_slot(self):
        for inside, path in CALL_PLACES:
            with self.subTest(path=path):
                moved = (path[0] + 1,) + path[1:]
                self.assertEqual(refused_here(CELL, *inside(("cell", "a", "on"))), ("names", moved))
                self.assertEqual(refused_here(CELL, *inside(CELL)), ("names", moved))
                self.assertIsNone(refused_here(CELL, *inside(("cell", "c", "off"))))
                self.assertEqual(refused_here(*inside(CELL), CELL)[0], "names")

    def test_a_second_box_row_of_a_box(self):
        for inside, path in CALL_PLACES:
            with self.subTest(path=path):
                moved = (path[0] + 1,) + path[1:]
                self.assertEqual(refused_here(BOX, *inside(("box", "b", "on"))), ("names", moved))
                self.assertEqual(refused_here(BOX, *inside(BOX)), ("names", moved))
                self.assertIsNone(refused_here(BOX, *inside(("box", "c", "off"))))

    def test_the_other_half_of_an_if_row_is_earlier_too(self):
        self.assertEqual(refused_here(either(CELL, other=(CELL,))), ("names", (0, 1, 0)))
        self.assertEqual(refused_here(either(BOX, other=(BOX,))), ("names", (0, 1, 0)))

    def test_the_row_ahead_is_inside_an_if(self):
        self.assertEqual(refused_here(either(CELL), CELL), ("names", (1,)))
        self.assertEqual(refused_here(either(other=(BOX,)), SHOW, BOX), ("names", (2,)))

    def test_a_cell_and_a_box_may_have_one_name(self):
        self.assertIsNone(refused_here(("cell", "a", "off"), ("box", "a", "off"), ("box", "x", "on")))

    def test_other_rows_may_have_the_slot_of_a_cell(self):
        self.assertIsNone(refused_here(CELL, ("put", "a", "on"), ("map", "a", "x", SWAP), ("put", "a", "on"),
                                       ("kept", "a", "x", SWAP, ()), ("kept", "a", "a", SWAP, ())))


class Inputs(unittest.TestCase):

    def test_call_rows_that_change_an_input(self):
        rows = [("cell", "y", "off"), ("kept", "y", "a", SWAP, ()), ("put", "y", "on"), ("map", "y", "a", SWAP)]
        for row, (inside, path) in itertools.product(rows, CALL_PLACES):
            with self.subTest(row=row, path=path):
                self.assertEqual(refused_here(*inside(row), inputs=("x", "y")), ("names", path))
                self.assertEqual(refused_here(*inside(row), inputs=("y",)), ("names", path))
                self.assertIsNone(refused_here(*inside(row), inputs=("x",)))

    def test_call_rows_that_read_an_input(self):
        for row in [("kept", "a", "x", SWAP, ("x",)), ("map", "a", "x", SWAP), SHOW, either(SHOW), ("box", "x", "on"),
                    effect(SAY, slots=("x",)), handler(SAY, slots=("x",))]:
            with self.subTest(row=row):
                self.assertIsNone(refused_here(row))

    def test_function_rows_may_change_an_input(self):
        rows = [("put", "x", "on"), ("map", "x", "x", SWAP), ("fetch", "b", "x")]
        for row, (inside, path) in itertools.product(rows, FUNCTION_PLACES):
            with self.subTest(row=row, path=path):
                self.assertIsNone(refused_here(*inside(row), BOX))


class NotMade(unittest.TestCase):

    def test_no_cell_row_anywhere(self):
        for row, (inside, path) in itertools.product(CELL_USERS, FUNCTION_PLACES):
            with self.subTest(row=row, path=path):
                self.assertEqual(refused_here(*inside(row)), ("names", path))
                self.assertEqual(refused_here(*inside(row), ("box", "a", "off"), ("put", "a", "on"),
                                              ("cell", "b", "off"), ("kept", "a", "x", SWAP, ())), ("names", path))

    def test_no_box_row_anywhere(self):
        for row, (inside, path) in itertools.product(BOX_USERS, FUNCTION_PLACES):
            with self.subTest(row=row, path=path):
                self.assertEqual(refused_here(*inside(row)), ("names", path))
                self.assertEqual(refused_here(*inside(row), ("cell", "b", "off"), ("box", "a", "on")), ("names", path))

    def test_an_input_is_no_cell(self):
        self.assertEqual(refused_here(effect(("turn", "x", SWAP))), ("names", (0, 0, 0)))

    def test_a_row_behind_or_in_an_if_is_enough(self):
        for users, maker in ((CELL_USERS, CELL), (BOX_USERS, BOX)):
            for row, (inside, path) in itertools.product(users, FUNCTION_PLACES):
                user = inside(row)
                with self.subTest(row=row, path=path):
                    self.assertIsNone(refused_here(maker, *user))
                    self.assertIsNone(refused_here(*user, maker))
                    self.assertIsNone(refused_here(*user, either(SHOW, maker)))
                    self.assertIsNone(refused_here(*user, either(other=(either(other=(maker,)),))))

    def test_a_row_in_the_other_half_is_enough(self):
        for users, maker in ((CELL_USERS, CELL), (BOX_USERS, BOX)):
            for row in users:
                self.assertIsNone(refused_here(either(handler(row), other=(maker,))))
                self.assertIsNone(refused_here(either(maker, other=(effect(row),))))


class Order(unittest.TestCase):

    def test_the_first_in_program_order_is_named(self):
        wrong = [(("cell", "x", "off"), ()), (("put", "x", "on"), ()), (("cell", "a", "on"), ()),
                 (("box", "b", "on"), ()), (effect(("turn", "no", SWAP)), (0, 0)),
                 (handler(later(("write", "no", "x"))), (0, 0, 0, 0)), (either(("map", "x", "a", SWAP)), (0, 0)),
                 (effect(clean=(("fetch", "no", "x"),)), (1, 0))]
        for (first, behind), (second, _) in itertools.permutations(wrong, 2):
            with self.subTest(first=first, second=second):
                self.assertEqual(refused_here(CELL, BOX, SHOW, first, second), ("names", (3,) + behind))
                self.assertEqual(refused_here(CELL, BOX, either(first, second)), ("names", (2, 0, 0) + behind))
                self.assertEqual(refused_here(CELL, BOX, either(first, other=(second,))),
                                 ("names", (2, 0, 0) + behind))

    def test_rows_come_before_names_and_names_before_many(self):
        double = (CELL, CELL)
        self.assertEqual(refused_here(*double, None), ("rows", (2,)))
        self.assertEqual(refused_here(*double, *(SHOW,) * 20), ("names", (1,)))
        self.assertEqual(refused_here(*(SHOW,) * 20, *double), ("names", (21,)))
        self.assertEqual(refused_here(effect(*(SAY,) * 9, ("turn", "a", SWAP))), ("names", (0, 0, 9)))
        self.assertEqual(refused_here(effect(*(SAY,) * 9), *double), ("names", (2,)))
        self.assertEqual(refused_here(*(SHOW,) * 20, None), ("rows", (20,)))
        self.assertEqual(refused_here(effect(*(SAY,) * 9), None), ("rows", (1,)))


if __name__ == "__main__":
    unittest.main()
