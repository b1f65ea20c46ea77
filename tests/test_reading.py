"""Point 34: which lines of a text are allowed, and the number of the first one that is not."""

import itertools
import unittest

from calledanew.errors import InvalidPart, InvalidText
from calledanew.parts import Part
from calledanew.texts import format_part, parse_part
from deeds import WORDS
from random_parts import parts_of
from samples import rich_part
from test_texts import CALL_TEXTS, FUNCTION_TEXTS, HEAD

START = "words off on\ninputs x\nevents go\n"

# Lines that are allowed wherever a row may stand, though not all of them make a right part.
ROW_LINES = ["cell c off", "box d on", "kept k x = on off : x a", "kept k x = :", "kept k x = : a", "kept k x = on :",
             "put p on", "map m x = on off", "map m x =", "show x", "say x", "set a x", "turn a = on off", "turn a =",
             "write b x", "fetch b y", "turn a = a a a a a a", "say end", "show else", "put clean maybe"]
BLOCK_LINES = ["effect", "effect :", "effect : x", "effect : a b c d e f", "handler go", "handler go :",
               "handler stop : x", "if x on", "if x maybe", "later"]

WRONG_LINES = [
    "", " ", "  ", "cell", "cell c", "cell c off on", " cell c off", "cell c off ", "cell  c off", "cell c  off",
    "Cell c off", "cell C off", "cell c1 off", "cell c off1", "cell ninechars off", "cell c ninechars", "cell c = off",
    "cell c off :", "cell : off", "cell-c off", "cell c,off", "cell\tc off", "cell c off\t", "cell c off\r",
    "cell c o.f",
    "box", "box b", "box b off on", "kept k x", "kept k x on off x", "kept k x = on off", "kept k x : x",
    "kept k x : x = on off", "kept k x = = on off : x", "kept k x = on = off : x", "kept k x = on off : : x",
    "kept k x = on off : x :", "kept k x = on off : x : a", "kept k x on off : x", "kept k = on off : x",
    "kept = on : x",
    "kept k x a = on off : x", "kept k x= on off : x", "kept k x =on off : x", "kept k x = on off :x",
    "kept k x = on off: x",
    "kept k x = on off = : x", "map m x", "map m x on off", "map m = on off", "map m x a = on off",
    "map m x = on off :",
    "map m x = on off : x", "map m x : on off", "map m x = = on off", "turn a", "turn a on off", "turn = on off",
    "turn a b = on off", "turn a = on off :", "turn a = on = off", "put p", "put p on on", "put = on", "show",
    "show x x",
    "show =", "say", "say x a", "set a", "set a x x", "write b", "write b x x", "fetch b", "fetch b y y",
    "effect x", "effect = x", "effect : :", "effect : x :", "effect : x : a", "effect x : a", "effect ", "effect : ",
    "effect :x", "handler", "handler :", "handler : x", "handler go x", "handler go stop : x", "handler go : :",
    "handler go = x", "handler go : x : a", "if", "if x", "if x on off", "if x = on", "if x on :", "later x", "later :",
    "later =", "rows", "words off on", "inputs x", "events go", "press go", "tick", "hand x on", "ELSE", "End", "end x",
    "else x", "clean x", "end end", "end ", " end", "else ", " else", "clean ", " clean", "#", "# show x", "show x;"]


def line_of(text):
    """The number with which the text is refused, or None if its lines are allowed."""
    try:
        parse_part(text)
    except InvalidText as error:
        return error.line
    except InvalidPart:
        return None
    return None


def part_fault(text):
    """The component and the path with which the part of the text is refused."""
    try:
        parse_part(text)
    except InvalidPart as error:
        return (error.part, error.path)
    return None


class Whole(unittest.TestCase):

    def test_the_empty_text(self):
        self.assertEqual(line_of(""), 0)

    def test_no_newline_at_the_end(self):
        right = HEAD + "".join(CALL_TEXTS.values())
        self.assertIsNone(line_of(right))
        for text in (right[:-1], right + "end", right + " ", "x", " ", "words off on", "words off on\ninputs\nevents",
                     right + "show x\nNO", "NO\n" + right + "NO", "\n\n ", "\nx", right + "if x on", "end\nend"):
            with self.subTest(text):
                self.assertEqual(line_of(text), 0)

    def test_fewer_than_three_lines(self):
        self.assertEqual(line_of("\n"), 1)
        self.assertEqual(line_of("words off on\n"), 2)
        self.assertEqual(line_of("words off on\ninputs\n"), 3)
        self.assertIsNone(line_of("words off on\ninputs\nevents\n"))
        self.assertEqual(line_of("words off on\n\n"), 2)
        self.assertEqual(line_of("words off on\ninputs\n\n"), 3)
        self.assertEqual(line_of("words off on\ninputs\nevents\n\n"), 4)


class FirstLines(unittest.TestCase):

    def test_zero_or_more_names(self):
        names = ["", " a", " off on", " a b c d e f g h i j", " a a a", " words inputs events", " end else clean"]
        for first, second, third in itertools.product(names, repeat=3):
            self.assertIsNone(line_of(f"words{first}\ninputs{second}\nevents{third}\n"))

    def test_out_of_order_or_missing(self):
        lines = ["words off on", "inputs x", "events go"]
        for order in itertools.permutations(lines):
            text = "\n".join(order) + "\nshow x\n"
            wrong = [at for at in range(3) if order[at] != lines[at]]
            self.assertEqual(line_of(text), wrong[0] + 1 if wrong else None)
        for left in range(3):
            rest = lines[:left] + lines[left + 1:]
            self.assertEqual(line_of("\n".join(rest + ["show x"]) + "\n"), left + 1)
            self.assertEqual(line_of("\n".join(lines[:left] + ["show x"] + lines[left:]) + "\n"), left + 1)
            self.assertEqual(line_of("\n".join(lines[:left] + [lines[left]] + lines[left:]) + "\n"), left + 2)

    def test_wrong_items(self):
        for at, kind in enumerate(("words", "inputs", "events")):
            for wrong in ["  a", " a  b", " a ", " ", " A", " a1", " ninechars", " a,b", " =", " :", " a : b", " a = b",
                          "s", "a", "=", ":", "\ta", " a\r"]:
                lines = ["words off on", "inputs x", "events go"]
                lines[at] = kind + wrong
                with self.subTest(lines[at]):
                    self.assertEqual(line_of("\n".join(lines) + "\n"), at + 1)
            for wrong in [kind.upper(), kind.title(), " " + kind, kind[:-1], ""]:
                lines = ["words off on", "inputs x", "events go"]
                lines[at] = wrong + " a"
                self.assertEqual(line_of("\n".join(lines) + "\n"), at + 1)


class Lines(unittest.TestCase):

    def test_each_row_may_stand_anywhere(self):
        places = [("", ""), ("effect\n", "clean\nend\n"), ("effect : x\nsay x\nclean\n", "end\n"),
                  ("handler go\n", "end\n"), ("if x on\n", "else\nend\n"), ("if x on\nelse\n", "end\n"),
                  ("later\n", "end\n"), ("later\nlater\n", "end\nend\n"),
                  ("if x on\nif x on\nelse\n", "end\nelse\nend\n")]
        blocks = [line + ("\nclean\nend" if line.startswith("effect") else "\nelse\nend" if line.startswith("if")
                          else "\nend") for line in BLOCK_LINES]
        for (before, behind), line in itertools.product(places, ROW_LINES + blocks):
            with self.subTest(before=before, line=line):
                self.assertIsNone(line_of(START + before + line + "\n" + behind))

    def test_wrong_lines_wherever_they_stand(self):
        places = ["", "show x\n", "effect\n", "effect : x\nclean\n", "handler go\nsay x\n", "if x on\n",
                  "if x on\nelse\n",
                  "later\n"]
        for before, line in itertools.product(places, WRONG_LINES):
            text = START + before + line + "\n"
            with self.subTest(text=text):
                self.assertEqual(line_of(text), text[:-1].count("\n") + 1)
                self.assertEqual(line_of(text + "show x\nNO\n"), text.count("\n"))

    def test_the_first_of_several(self):
        self.assertEqual(line_of(START + "show x\nNO\nNO\n"), 5)
        self.assertEqual(line_of("NO\nNO\n"), 1)
        self.assertEqual(line_of("words A\nNO\n"), 1)
        self.assertEqual(line_of(START + "if x on\nNO\n"), 5)
        self.assertEqual(line_of(START + "end\nif x on\n"), 4)

    def test_one_item_less_or_more_and_one_letter_else(self):
        for line in ROW_LINES + BLOCK_LINES:
            tokens = line.split(" ")
            marks = [at for at, token in enumerate(tokens) if token in ("=", ":")]
            fixed = tokens[:marks[0]] if marks else tokens
            for at in range(1, len(fixed)):
                with self.subTest(line=line, at=at):
                    less = tokens[:at] + tokens[at + 1:]
                    self.assertEqual(line_of(START + " ".join(less) + "\n"), 4)
                    more = tokens[:at] + ["more"] + tokens[at:]
                    self.assertEqual(line_of(START + " ".join(more) + "\n"), 4)
            for at, token in enumerate(tokens):
                for wrong in (token.upper() if token.isalpha() else "-", token + "1", token + ".", "", "abcdefghi"):
                    changed = " ".join(tokens[:at] + [wrong] + tokens[at + 1:])
                    with self.subTest(changed=changed):
                        self.assertEqual(line_of(START + changed + "\n"), 4)


class Blocks(unittest.TestCase):

    def test_else_clean_and_end_where_they_may_not_stand(self):
        # What is open, and which of the three lines may stand then.
        opened = [("", ()), ("show x\n", ()), ("effect\n", ("clean",)), ("effect : x\nclean\n", ("end",)),
                  ("effect\nsay x\n", ("clean",)), ("handler go\n", ("end",)), ("handler go : x\nsay x\n", ("end",)),
                  ("if x on\n", ("else",)), ("if x on\nshow x\n", ("else",)), ("if x on\nelse\n", ("end",)),
                  ("later\n", ("end",)), ("effect\nlater\n", ("end",)), ("effect\nlater\nend\n", ("clean",)),
                  ("effect\nif x on\n", ("else",)), ("effect\nif x on\nelse\n", ("end",)),
                  ("effect\nif x on\nelse\nend\n", ("clean",)), ("effect\nclean\nif x on\n", ("else",)),
                  ("effect\nclean\nif x on\nelse\nend\n", ("end",)), ("effect\nclean\nend\n", ()),
                  ("if x on\neffect\n", ("clean",)), ("if x on\neffect\nclean\nend\n", ("else",)),
                  ("if x on\nelse\neffect\n", ("clean",)), ("if x on\nif x on\nelse\nend\n", ("else",)),
                  ("if x on\nelse\nif x on\n", ("else",)), ("if x on\nelse\nend\n", ()),
                  ("handler go\nif x on\n", ("else",)), ("handler go\nlater\nend\n", ("end",)),
                  ("handler go\nend\n", ()),
                  ("effect\neffect\nclean\nend\n", ("clean",)), ("later\nend\n", ())]
        for before, allowed in opened:
            for line in ("else", "clean", "end"):
                text = START + before + line + "\n"
                with self.subTest(text=text):
                    if line in allowed:
                        self.assertNotEqual(line_of(text), text.count("\n"))
                    else:
                        self.assertEqual(line_of(text), text.count("\n"))

    def test_a_block_that_is_still_open(self):
        for before in ["effect\n", "effect\nclean\n", "handler go\n", "if x on\n", "if x on\nelse\n", "later\n",
                       "effect : x\nlater\nsay x\nend\n", "if x on\nif x on\nelse\nend\nelse\nshow x\n",
                       "handler go\nlater\n"]:
            text = START + before
            with self.subTest(text=text):
                self.assertEqual(line_of(text), text.count("\n") + 1)
                self.assertEqual(line_of(START + "show x\n" + before), text.count("\n") + 2)

    def test_nested_twenty_deep(self):
        for depth in (4, 20, 25):
            text = START + "if x on\n" * depth + "show x\n" + "else\nend\n" * depth
            self.assertEqual(part_fault(text), ("rows", (0,) * 7))
            self.assertEqual(line_of(START + "if x on\n" * depth), 4 + depth)
            self.assertEqual(line_of(START + "if x on\n" * depth + "else\nend\n" * depth + "end\n"), 4 + 3 * depth)
            text = START + "later\n" * depth + "say x\n" + "end\n" * depth
            self.assertEqual(part_fault(text), ("rows", (0,)))
            text = START + "handler go\n" * depth + "say x\n" + "end\n" * depth
            self.assertEqual(part_fault(text), ("rows", (0, 0, 0)))
            text = START + "effect\n" * depth + "say x\n" + "clean\nend\n" * depth
            self.assertEqual(part_fault(text), ("rows", (0, 0, 0)))

    def test_a_thousand_lines(self):
        text = START + "show x\n" * 997
        self.assertEqual(part_fault(text), ("many", ()))
        self.assertEqual(line_of(text + "no\n"), 1001)
        self.assertEqual(line_of(START + "if x on\nelse\nend\n" * 332 + "NO\n"), 1000)
        self.assertEqual(line_of(START + "handler go\n" + "say x\n" * 996), 1001)


class Parts(unittest.TestCase):

    def test_lines_that_are_allowed_and_a_part_that_is_not(self):
        for text, expected in [
                ("words off\ninputs\nevents\n", ("words", ())), ("words\ninputs\nevents\n", ("words", ())),
                ("words a b c d e\ninputs\nevents\n", ("words", ())), ("words a a\ninputs\nevents\n", ("words", ())),
                ("words a b\ninputs x x\nevents\n", ("inputs", ())),
            ("words a b\ninputs x y z\nevents\n", ("inputs", ())),
                ("words a b\ninputs\nevents a b c d\n", ("events", ())),
            ("words a b\ninputs\nevents a a\n", ("events", ())),
                (START + "cell c maybe\n", ("rows", (0,))), (START + "show x\nkept k x = on : x\n", ("rows", (1,))),
                (START + "kept k x = on off : x x\n", ("rows", (0,))),
            (START + "effect : a b c d e\nclean\nend\n", ("rows", (0,))),
                (START + "handler stop\nend\n", ("rows", (0,))), (START + "show x\nsay x\n", ("rows", (1,))),
                (START + "handler go\nsay x\nshow x\nend\n", ("rows", (0, 0, 1))),
                (START + "effect\nclean\ncell c off\nend\n", ("rows", (0, 1, 0))),
                (START + "effect\nclean\nlater\nend\nend\n", ("rows", (0, 1, 0))),
                (START + "if x on\nelse\nlater\nend\nend\n", ("rows", (0, 1, 0))),
                (START + "handler go\nif x on\nelse\nlater\nend\nend\nend\n", ("rows", (0, 0, 0, 1, 0))),
                (START + "put x on\n", ("names", (0,))), (START + "cell c on\ncell c on\n", ("names", (1,))),
                (START + "effect\nturn c = on off\nclean\nend\n", ("names", (0, 0, 0))),
                (START + "effect\nclean\nfetch c y\nend\n", ("names", (0, 1, 0))),
                (START + "show x\n" * 17, ("many", ())),
                (START + "handler go\n" + "say x\n" * 9 + "end\n", ("many", (0, 0)))]:
            with self.subTest(text):
                self.assertEqual(part_fault(text), expected)

    def test_all_rows_of_the_samples(self):
        text = HEAD + "".join(CALL_TEXTS.values()).replace("cell c", "cell e").replace("box d", "box f")
        for row in FUNCTION_TEXTS.values():
            text += "effect\n" + row + "clean\nend\n"
            if text.count("\n") < 32:
                self.assertEqual(format_part(parse_part(text)), text)
        self.assertEqual(part_fault(text), ("many", ()))

    def test_spoiled_texts_of_parts(self):
        for part in parts_of(14, 30) + [rich_part()]:
            text = format_part(part)
            lines = text.split("\n")[:-1]
            for at in range(len(lines)):
                for wrong in ("", lines[at] + " ", " " + lines[at], lines[at].upper()):
                    self.assertEqual(line_of("\n".join(lines[:at] + [wrong] + lines[at + 1:]) + "\n"), at + 1)
                if at < 3:
                    self.assertEqual(line_of("\n".join(lines[:at] + lines[at + 1:]) + "\n"), at + 1)
                elif lines[at] == "end":
                    self.assertIsNotNone(line_of("\n".join(lines[:at] + lines[at + 1:]) + "\n"))
                self.assertEqual(line_of("\n".join(lines[:at + 1])), 0)
            self.assertEqual(line_of(text + "end\n"), len(lines) + 1)

    def test_a_new_part_each_time(self):
        first = parse_part(HEAD)
        self.assertIsNot(parse_part(HEAD), first)
        self.assertEqual(first, Part(WORDS, ("x",), ("go",), (("cell", "a", "off"), ("box", "b", "off"))))


if __name__ == "__main__":
    unittest.main()
