"""Point 33: the text of a part, and back."""

import unittest

from calledanew.parts import Part
from calledanew.texts import format_part, parse_part
from deeds import SWAP, WORDS
from random_parts import parts_of
from samples import CALL_SAMPLES, FUNCTION_SAMPLES, effect, either, handler, later, part_of, rich_part

HEAD = "words off on\ninputs x\nevents go\ncell a off\nbox b off\n"

CALL_TEXTS = {
    "cell": "cell c off\n",
    "box": "box d on\n",
    "kept": "kept k x = on off : x a\n",
    "effect": "effect : x\nsay x\nclean\nsay a\nend\n",
    "handler": "handler go : a\nsay x\nend\n",
    "put": "put p on\n",
    "map": "map m x = on off\n",
    "if": "if x on\nshow x\nelse\nshow a\nend\n",
    "show": "show x\n",
}
FUNCTION_TEXTS = {
    "say": "say x\n",
    "set": "set a x\n",
    "turn": "turn a = on off\n",
    "write": "write b x\n",
    "fetch": "fetch b y\n",
    "put": "put p on\n",
    "map": "map m x = on off\n",
    "if": "if x on\nsay x\nelse\nsay a\nend\n",
    "later": "later\nsay x\nend\n",
}


class Forms(unittest.TestCase):

    def text_is(self, part, text):
        """The part has this text, and the text gives an equal part with plain tuples."""
        self.assertEqual(format_part(part), text)
        back = parse_part(text)
        self.assertEqual(back, part)
        self.assertEqual([back.words, back.inputs, back.events, back.rows],
                         [part.words, part.inputs, part.events, part.rows])

    def rows_are(self, *rows, text):
        self.text_is(part_of(*rows), HEAD + text)

    def test_each_call_row(self):
        for kind, row in CALL_SAMPLES.items():
            with self.subTest(kind):
                self.rows_are(row, text=CALL_TEXTS[kind])

    def test_each_function_row(self):
        for kind, row in FUNCTION_SAMPLES.items():
            with self.subTest(kind):
                text = FUNCTION_TEXTS[kind]
                self.rows_are(handler(row), text="handler go\n" + text + "end\n")
                self.rows_are(effect(row), text="effect :\n" + text + "clean\nend\n")
                if kind != "later":
                    self.rows_are(effect(clean=(row,)), text="effect :\nclean\n" + text + "end\n")
                    self.rows_are(handler(later(row)), text="handler go\nlater\n" + text + "end\nend\n")

    def test_lists(self):
        for slots, text in [(None, ""), ((), " :"), (("x",), " : x"), (("x", "a", "q", "b"), " : x a q b")]:
            self.rows_are(effect(slots=slots), text="effect" + text + "\nclean\nend\n")
            self.rows_are(handler(slots=slots), text="handler go" + text + "\nend\n")
            if slots is not None:
                self.rows_are(("kept", "k", "a", SWAP, slots), text="kept k a = on off" + text + "\n")

    def test_empty_bodies_cleans_halves_and_later_rows(self):
        self.rows_are(effect(), text="effect :\nclean\nend\n")
        self.rows_are(effect(clean=(("say", "x"),)), text="effect :\nclean\nsay x\nend\n")
        self.rows_are(handler(), text="handler go\nend\n")
        self.rows_are(handler(later()), text="handler go\nlater\nend\nend\n")
        self.rows_are(either(), text="if x on\nelse\nend\n")
        self.rows_are(either(("show", "x")), text="if x on\nshow x\nelse\nend\n")
        self.rows_are(either(other=(("show", "x"),)), text="if x on\nelse\nshow x\nend\n")

    def test_nested_if_rows(self):
        self.rows_are(either(either(either(("show", "x")), other=(("show", "a"),)), other=(either(),)), text=(
            "if x on\nif x on\nif x on\nshow x\nelse\nend\nelse\nshow a\nend\nelse\nif x on\nelse\nend\nend\n"))
        self.rows_are(effect(either(either(("say", "x")), other=(("say", "a"),)), later(either(other=(("say", "x"),)))),
                      text="effect :\nif x on\nif x on\nsay x\nelse\nend\nelse\nsay a\nend\n"
                           "later\nif x on\nelse\nsay x\nend\nend\nclean\nend\n")

    def test_no_inputs_no_events_no_rows(self):
        self.text_is(Part(WORDS, (), (), ()), "words off on\ninputs\nevents\n")
        self.text_is(Part(("d", "c", "b", "a"), ("y", "x"), ("up", "go", "no"), ()),
                     "words d c b a\ninputs y x\nevents up go no\n")
        self.text_is(Part(WORDS, (), (), (("show", "x"),)), "words off on\ninputs\nevents\nshow x\n")

    def test_tables_of_three_and_four_words(self):
        words = ("p", "q", "r", "s")
        part = Part(words, (), (), (("cell", "a", "p"), ("kept", "k", "a", words, ()), ("map", "m", "a", words[::-1]),
                                    ("effect", (), (("turn", "a", words),), ())))
        self.text_is(part, "words p q r s\ninputs\nevents\ncell a p\nkept k a = p q r s :\nmap m a = s r q p\n"
                           "effect :\nturn a = p q r s\nclean\nend\n")

    def test_names_that_are_words_of_the_texts(self):
        part = Part(("end", "else", "clean", "if"), ("words", "inputs"), ("events", "end", "handler"), (
            ("cell", "else", "end"), ("box", "clean", "if"), ("kept", "end", "words", ("if",) * 4, ("else", "later")),
            ("effect", ("clean", "effect"), (("say", "end"), ("later", (("say", "later"),))), (("say", "clean"),)),
            ("handler", "end", ("handler",), (("write", "clean", "end"), ("fetch", "clean", "clean"))),
            ("handler", "events", None, (("set", "else", "else"), ("turn", "else", ("end", "if", "if", "else")))),
            ("if", "if", "if", (("put", "clean", "clean"),), (("show", "end"),)),
            ("map", "map", "if", ("else",) * 4), ("show", "show")))
        self.text_is(part, (
            "words end else clean if\ninputs words inputs\nevents events end handler\ncell else end\nbox clean if\n"
            "kept end words = if if if if : else later\neffect : clean effect\nsay end\nlater\nsay later\nend\nclean\n"
            "say clean\nend\nhandler end : handler\nwrite clean end\nfetch clean clean\nend\nhandler events\n"
            "set else else\nturn else = end if if else\nend\nif if if\nput clean clean\nelse\nshow end\nend\n"
            "map map if = else else else else\nshow show\n"))


class Back(unittest.TestCase):

    def test_the_text_of_a_part_gives_an_equal_part(self):
        for part in parts_of(11, 300) + parts_of(12, 100, steady=True) + [rich_part()]:
            text = format_part(part)
            self.assertEqual(parse_part(text), part)
            self.assertEqual(format_part(parse_part(text)), text)
            self.assertTrue(text.endswith("\n") and "\n\n" not in text and "  " not in text and " \n" not in text)

    def test_a_part_has_one_line_for_each_plain_row(self):
        for part in parts_of(13, 100):
            lines = format_part(part).split("\n")[:-1]
            kinds = [part.row_at(path)[0] for path in part.row_paths()]
            blocks = {kind: kinds.count(kind) for kind in ("effect", "handler", "if", "later")}
            self.assertEqual(len(lines), 3 + len(kinds) + sum(blocks.values()) + blocks["effect"] + blocks["if"])
            self.assertEqual([lines.count("clean"), lines.count("else"), lines.count("end")],
                             [blocks["effect"], blocks["if"], sum(blocks.values())])


if __name__ == "__main__":
    unittest.main()
