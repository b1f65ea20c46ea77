"""Point 10: slots and steady parts."""

import unittest

from calledanew.parts import Part
from samples import SWAP, effect, either, handler, later, part_of, rich_part

SHOW = ("show", "x")
SAY = ("say", "x")


def slots_of(*rows, inputs=("x",)):
    return Part(("off", "on"), inputs, ("go",), rows).slots()


class Slots(unittest.TestCase):

    def test_inputs_come_first_in_their_order(self):
        self.assertEqual(slots_of(inputs=("z", "m")), ("z", "m"))
        self.assertEqual(slots_of(inputs=("m", "z")), ("m", "z"))
        self.assertEqual(slots_of(inputs=()), ())
        self.assertEqual(slots_of(("show", "q"), ("show", "m"), ("show", "a"), inputs=("z", "m")),
                         ("z", "m", "a", "q"))

    def test_the_others_ascend_as_strings(self):
        rows = tuple(("show", name) for name in ("b", "abc", "z", "ab", "zz", "y", "aa", "abcdefgh"))
        self.assertEqual(slots_of(*rows), ("x", "aa", "ab", "abc", "abcdefgh", "b", "y", "z", "zz"))

    def test_each_call_row(self):
        for row, names in [
            (("cell", "s", "off"), ("s",)), (("box", "s", "off"), ()), (("kept", "s", "f", SWAP, ("l", "k")), "fkls"),
            (("put", "s", "on"), ("s",)), (("map", "s", "f", SWAP), ("f", "s")), (("if", "s", "on", (), ()), ("s",)),
            (("show", "s"), ("s",)), (effect(slots=("l", "k")), ("k", "l")), (effect(slots=None), ()),
            (handler(slots=("l", "k")), ("k", "l")), (handler(slots=None), ()), (handler(slots=()), ()),
            (("kept", "s", "s", SWAP, ()), ("s",)),
        ]:
            with self.subTest(row=row):
                self.assertEqual(slots_of(row), ("x",) + tuple(names))
                self.assertEqual(slots_of(either(row)), ("x",) + tuple(names))
                self.assertEqual(slots_of(either(other=(either(other=(row,)),))), ("x",) + tuple(names))

    def test_each_function_row(self):
        made = (("cell", "c", "off"), ("box", "b", "off"))
        for row, names in [
            (("say", "s"), ("s",)), (("set", "c", "s"), ("s",)), (("turn", "c", SWAP), ()),
            (("write", "b", "s"), ("s",)), (("fetch", "b", "s"), ("s",)), (("put", "s", "on"), ("s",)),
            (("map", "s", "f", SWAP), ("f", "s")), (("if", "s", "on", (), ()), ("s",)),
        ]:
            expected = ("x", "c") + tuple(names)
            for wrapped in (effect(row), effect(clean=(row,)), handler(row), effect(later(row)),
                            handler(later(either(row))), either(handler(either(other=(row,)))), effect(either(row))):
                with self.subTest(row=row, wrapped=wrapped):
                    self.assertEqual(slots_of(*made, wrapped), expected)
        self.assertEqual(slots_of(*made, handler(later())), ("x", "c"))

    def test_each_slot_once(self):
        self.assertEqual(slots_of(SHOW, SHOW, ("map", "m", "x", SWAP), ("map", "m", "m", SWAP), effect(("say", "m")),
                                  effect(slots=("m", "x")), ("cell", "m", "on"), effect(("turn", "m", SWAP))),
                         ("x", "m"))

    def test_an_input_that_no_row_names(self):
        self.assertEqual(slots_of(("show", "a"), inputs=("y", "x")), ("y", "x", "a"))

    def test_rich_part(self):
        self.assertEqual(rich_part().slots(), ("x", "y", "a", "k", "q", "v", "w", "z"))
        self.assertIs(type(rich_part().slots()), tuple)


class Steady(unittest.TestCase):

    def test_a_hook_inside_an_if(self):
        for hook in [("cell", "c", "off"), ("box", "d", "off"), ("kept", "k", "x", SWAP, ()), effect(), handler()]:
            with self.subTest(hook=hook):
                self.assertIs(part_of(hook).is_steady(), True)
                self.assertIs(part_of(either(hook)).is_steady(), False)
                self.assertIs(part_of(SHOW, either(SHOW, other=(SHOW, hook))).is_steady(), False)
                self.assertIs(part_of(either(either(either(hook)))).is_steady(), False)
                self.assertIs(part_of(hook, either(SHOW)).is_steady(), True)

    def test_other_rows_inside_an_if(self):
        part = part_of(either(("put", "p", "on"), ("map", "m", "x", SWAP), SHOW, either(SHOW)),
                       effect(either(("turn", "a", SWAP)), later(SAY)))
        self.assertIs(part.is_steady(), True)

    def test_rich_part(self):
        self.assertIs(rich_part().is_steady(), False)


if __name__ == "__main__":
    unittest.main()
