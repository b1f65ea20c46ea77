"""Point 9, 4: too many rows in the call or in a function."""

import unittest

from samples import EVENTS, INPUTS, WORDS, effect, either, handler, later, refused

SAY = ("say", "x")
SHOW = ("show", "x")


def refused_here(*rows):
    return refused(WORDS, INPUTS, EVENTS, rows)


def says(count):
    return (SAY,) * count


def shows(count):
    return (SHOW,) * count


class CallRows(unittest.TestCase):

    def test_at_depth_one(self):
        self.assertIsNone(refused_here(*shows(16)))
        self.assertEqual(refused_here(*shows(17)), ("many", ()))
        self.assertEqual(refused_here(*shows(40)), ("many", ()))

    def test_at_all_depths(self):
        for place in range(6):
            def rows(count):
                return [
                    (either(*shows(count - 1)),),
                    (either(other=shows(count - 1)),),
                    (either(*shows(4), other=shows(count - 8)),) + shows(3),
                    (either(SHOW, either(*shows(2), other=shows(count - 7)), other=shows(2)),),
                    (either(either(either(*shows(count - 3)))),),
                    shows(count - 3) + (either(either(other=(SHOW,))),),
                ][place]
            with self.subTest(place=place):
                self.assertIsNone(refused_here(*rows(16)))
                self.assertEqual(refused_here(*rows(17)), ("many", ()))

    def test_function_rows_do_not_count(self):
        full = (effect(*says(8), clean=says(8)), handler(*says(8)), effect(later(*says(7))), handler(either(*says(7))))
        self.assertIsNone(refused_here(*full, *shows(12)))
        self.assertEqual(refused_here(*full, *shows(13)), ("many", ()))

    def test_each_hook_counts(self):
        rows = (effect(), handler(), ("cell", "a", "off"), ("box", "b", "off"), ("kept", "k", "x", ("on", "on"), ()))
        self.assertIsNone(refused_here(*rows, *shows(11)))
        self.assertEqual(refused_here(*rows, *shows(12)), ("many", ()))

    def test_the_call_comes_before_the_functions(self):
        self.assertEqual(refused_here(effect(*says(9)), *shows(16)), ("many", ()))
        self.assertEqual(refused_here(effect(*says(9)), *shows(15)), ("many", (0, 0)))


class FunctionRows(unittest.TestCase):

    def test_each_kind_of_function(self):
        for wrap, path in [(lambda rows: effect(*rows), (0, 0)), (lambda rows: effect(clean=rows), (0, 1)),
                           (lambda rows: handler(*rows), (0, 0))]:
            for rows in (says, lambda count: (either(*says(count - 1)),),
                         lambda count: says(2) + (either(SAY, either(SAY, other=says(count - 6))),)):
                with self.subTest(path=path):
                    self.assertIsNone(refused_here(wrap(rows(8))))
                    self.assertEqual(refused_here(wrap(rows(9))), ("many", path))
                    self.assertEqual(refused_here(wrap(rows(12))), ("many", path))

    def test_rows_of_later_count_for_the_body(self):
        self.assertIsNone(refused_here(effect(later(*says(7)))))
        self.assertEqual(refused_here(effect(later(*says(8)))), ("many", (0, 0)))
        self.assertEqual(refused_here(effect(later(*says(9)))), ("many", (0, 0)))
        self.assertIsNone(refused_here(handler(later(*says(3)), later(*says(2)), SAY)))
        self.assertEqual(refused_here(handler(later(*says(3)), later(*says(3)), SAY)), ("many", (0, 0)))
        self.assertEqual(refused_here(handler(later(either(*says(3), other=says(3))), SAY)), ("many", (0, 0)))
        self.assertIsNone(refused_here(handler(later(either(*says(3), other=says(3))))))
        self.assertEqual(refused_here(effect(*says(6), later(), later(), later())), ("many", (0, 0)))

    def test_body_and_clean_are_counted_apart(self):
        self.assertIsNone(refused_here(effect(*says(8), clean=says(8))))

    def test_the_first_function_is_named(self):
        self.assertEqual(refused_here(effect(*says(9), clean=says(9))), ("many", (0, 0)))
        self.assertEqual(refused_here(effect(*says(8), clean=says(9)), handler(*says(9))), ("many", (0, 1)))
        self.assertEqual(refused_here(handler(*says(8)), effect(*says(8)), effect(later(*says(9)))), ("many", (2, 0)))
        self.assertEqual(refused_here(SHOW, either(SHOW, handler(*says(9)), other=(effect(*says(9)),)),
                                      handler(*says(9))), ("many", (1, 0, 1, 0)))
        self.assertEqual(refused_here(either(SHOW, other=(effect(clean=says(9)),)), effect(*says(9))),
                         ("many", (0, 1, 0, 1)))


if __name__ == "__main__":
    unittest.main()
