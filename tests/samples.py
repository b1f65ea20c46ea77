"""Parts, rows and values that several tests use."""

import itertools

from calledanew.errors import InvalidPart
from calledanew.parts import Part

WORDS = ("off", "on")
INPUTS = ("x",)
EVENTS = ("go",)
SWAP = ("on", "off")

# A row of each form; the cell "a" and the box "b" stand in every part of `part_of`.
CALL_SAMPLES = {
    "cell": ("cell", "c", "off"),
    "box": ("box", "d", "on"),
    "kept": ("kept", "k", "x", SWAP, ("x", "a")),
    "effect": ("effect", ("x",), (("say", "x"),), (("say", "a"),)),
    "handler": ("handler", "go", ("a",), (("say", "x"),)),
    "put": ("put", "p", "on"),
    "map": ("map", "m", "x", SWAP),
    "if": ("if", "x", "on", (("show", "x"),), (("show", "a"),)),
    "show": ("show", "x"),
}
FUNCTION_SAMPLES = {
    "say": ("say", "x"),
    "set": ("set", "a", "x"),
    "turn": ("turn", "a", SWAP),
    "write": ("write", "b", "x"),
    "fetch": ("fetch", "b", "y"),
    "put": ("put", "p", "on"),
    "map": ("map", "m", "x", SWAP),
    "if": ("if", "x", "on", (("say", "x"),), (("say", "a"),)),
    "later": ("later", (("say", "x"),)),
}

BAD_NAMES = ["", "ninechars", "Abc", "aB", "a1", "a b", "a-", 1, 0, True, None, (), ("a",), ["a"], {}, {"a": 1}]
BAD_WORDS = ["maybe", "", "OFF", 0, True, None, (), ("off",), ["off"], {}]
BAD_LISTS = [("a", "a"), ("a", "b", "c", "d", "e"), ("A",), ("",), (1,), (None,), (("a",),), ["a"], "a", 0, False, {}]
BAD_TABLES = [(), ("on",), ("on", "off", "on"), ("on", "maybe"), ("on", None), ("on", ("off",)), ["on", "off"],
              "on", None, 2, True, {}]
BAD_ROWS = [None, [], [("say", "x")], "say", 0, True, {}]

# What each item of a row is, as point 5 and 6 say.
ITEM_FAULTS = {
    "cell": [BAD_NAMES, BAD_WORDS],
    "box": [BAD_NAMES, BAD_WORDS],
    "kept": [BAD_NAMES, BAD_NAMES, BAD_TABLES, BAD_LISTS + [None]],
    "effect": [BAD_LISTS, BAD_ROWS, BAD_ROWS],
    "handler": [["stop", "", "GO", 0, True, None, ("go",), ["go"], {}], BAD_LISTS, BAD_ROWS],
    "put": [BAD_NAMES, BAD_WORDS],
    "map": [BAD_NAMES, BAD_NAMES, BAD_TABLES],
    "if": [BAD_NAMES, BAD_WORDS, BAD_ROWS, BAD_ROWS],
    "show": [BAD_NAMES],
    "say": [BAD_NAMES],
    "set": [BAD_NAMES, BAD_NAMES],
    "turn": [BAD_NAMES, BAD_TABLES],
    "write": [BAD_NAMES, BAD_NAMES],
    "fetch": [BAD_NAMES, BAD_NAMES],
    "later": [BAD_ROWS],
}

NO_ROWS = [None, True, 0, "cell", "", [], ["show", "x"], {}, (), (1, "x"), (None,), (True, "x"), ((), "x"),
           (("show", "x"),), (["show"], "x"), ({}, "x"), ("shows", "x"), ("", "x"), ("Show", "x"), ("hook", "x", "on")]

MADE = (("cell", "a", "off"), ("box", "b", "off"))


def part_of(*rows, words=WORDS, inputs=INPUTS, events=EVENTS):
    """A part with the cell "a", the box "b" and, from place 2 on, the rows."""
    return Part(words, inputs, events, MADE + rows)


def refused(words, inputs, events, rows):
    """The (part, path) with which the components are refused, or None."""
    try:
        Part(words, inputs, events, rows)
    except InvalidPart as error:
        return (error.part, error.path)
    return None


def refused_rows(*rows, inputs=INPUTS):
    """The same for these rows behind the cell "a" and the box "b"."""
    return refused(WORDS, inputs, EVENTS, MADE + rows)


def with_item(row, at, item):
    return row[:at] + (item,) + row[at + 1:]


def wrong_forms(row):
    """All wrong rows that differ from a right row in one item or in the number of items."""
    for at, faults in enumerate(ITEM_FAULTS[row[0]], start=1):
        for item in faults:
            yield with_item(row, at, item)
    yield row[:-1]
    yield row + ((),)
    yield row + (row[-1],)
    yield list(row)


def effect(*body, clean=(), slots=()):
    return ("effect", slots, body, clean)


def handler(*body, slots=None):
    return ("handler", "go", slots, body)


def either(*first, other=(), slot="x", word="on"):
    return ("if", slot, word, first, other)


def later(*rows):
    return ("later", rows)


def nested(depth):
    """Values that are nested this deep, of tuples, lists and dicts."""
    for first, second in itertools.product(["tuple", "list", "dict"], repeat=2):
        value = "a"
        for level in range(depth):
            kind = first if level % 2 == 0 else second
            value = {"tuple": (value,), "list": [value], "dict": {"a": value}}[kind]
        yield value


def rich_part():
    """A part with nested if rows, effects, handlers and later rows."""
    return Part(("off", "on"), ("x", "y"), ("go", "stop"), (
        ("cell", "a", "off"),
        ("if", "x", "on",
         (("box", "b", "off"),
          ("if", "y", "on",
           (("if", "a", "on", (("show", "x"),), (("kept", "k", "x", SWAP, ("x",)),)),),
           (("effect", ("a",), (("say", "a"), ("later", (("turn", "a", SWAP),))), (("say", "x"),)),))),
         (("handler", "go", None, (("fetch", "b", "z"),)),)),
        ("effect", None,
         (("if", "x", "off", (("say", "x"),), (("if", "y", "on", (), (("put", "q", "on"),)),)),
          ("later", (("if", "a", "on", (("say", "a"),), ()),)),
          ("say", "y")),
         ()),
        ("handler", "stop", ("w",), (("later", ()), ("later", (("set", "a", "v"),)))),
        ("show", "a"),
    ))


RICH_ROWS = [
    (0,), (1,), (1, 0, 0), (1, 0, 1), (1, 0, 1, 0, 0), (1, 0, 1, 0, 0, 0, 0), (1, 0, 1, 0, 0, 1, 0),
    (1, 0, 1, 1, 0), (1, 0, 1, 1, 0, 0, 0), (1, 0, 1, 1, 0, 0, 1), (1, 0, 1, 1, 0, 0, 1, 0, 0), (1, 0, 1, 1, 0, 1, 0),
    (1, 1, 0), (1, 1, 0, 0, 0),
    (2,), (2, 0, 0), (2, 0, 0, 0, 0), (2, 0, 0, 1, 0), (2, 0, 0, 1, 0, 1, 0), (2, 0, 1), (2, 0, 1, 0, 0),
    (2, 0, 1, 0, 0, 0, 0), (2, 0, 2),
    (3,), (3, 0, 0), (3, 0, 1), (3, 0, 1, 0, 0), (4,)]
RICH_HOOKS = [(0,), (1, 0, 0), (1, 0, 1, 0, 0, 1, 0), (1, 0, 1, 1, 0), (1, 1, 0), (2,), (3,)]
RICH_FUNCTIONS = [(1, 0, 1, 1, 0, 0), (1, 0, 1, 1, 0, 0, 1, 0), (1, 0, 1, 1, 0, 1), (1, 1, 0, 0),
                  (2, 0), (2, 0, 1, 0), (2, 1), (3, 0), (3, 0, 0, 0), (3, 0, 1, 0)]

# Values that are the path of no row and of no function of any part.
NO_PATHS = [(), (-1,), (0, -1, 0), (True,), (False,), (0, False), (0, True, 0), "0", "", [0], [], None, {}, 0, True,
            (None,), ("0",), ("a",), ((0,),), ([0],), ({},), (0, [0], 0), (99,), (10 ** 30,)]
