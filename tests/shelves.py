"""Parts for books, of which each has something that a book must bear."""

from calledanew.parts import Part
from deeds import SWAP, WORDS, screen
from random_parts import parts_of
from samples import effect, either, handler, later

CELL = ("cell", "a", "off")
BOX = ("box", "b", "off")
TURN_A = ("turn", "a", SWAP)
SAY_A = ("say", "a")
SAY_X = ("say", "x")

# The part of the examples: its handler is out of date behind the first press.
STALE = Part(WORDS, (), ("go",), (("cell", "c", "off"), ("handler", "go", (),
                                                         (("map", "c", "c", SWAP), ("set", "c", "c"))),
                                  ("show", "c")))
# All starts are refused, with same "call".
NEVER = Part(WORDS, (), (), (("cell", "c", "off"), ("effect", None, (("set", "c", "c"),), ())))
EMPTY = Part(WORDS, (), (), ())
NO_ROWS = Part(WORDS, ("x", "y"), ("go",), ())
NO_INPUTS = screen(CELL, handler(TURN_A), effect(SAY_A, slots=("a",)), ("show", "a"), inputs=())
NO_EVENTS = screen(CELL, effect(TURN_A, slots=("x",)), ("show", "a"), events=())
TWO_INPUTS = screen(("kept", "k", "x", SWAP, ("y",)), ("show", "k"), handler(("say", "k"), ("say", "y"), slots=("x",)),
                    inputs=("x", "y"))
# The start with x on slips, and so does the hand from off to on.
SLIPS = screen(CELL, effect(either(TURN_A), slots=("x",)), either(("box", "b", "off"), slot="a"), handler(SAY_X))
# Functions that wait, until a press is refused.
WAITS = screen(CELL, handler(later(SAY_A, TURN_A), slots=()), ("show", "a"))
FULL = screen(CELL, handler(*[later(TURN_A)] * 2, either(TURN_A)), ("show", "a"))
# Rows that take the entries of others, and links that lead to other rows.
MIXED = screen(either(("cell", "a", "on"), other=(("cell", "c", "off"),)), handler(TURN_A, slots=()), ("show", "a"))
# The calls go on until each word was there: a bound below four is met by some starts only.
STEPS = ("p", "q", "r", "s")
COUNTS = screen(("cell", "a", "p"), effect(either(other=(("turn", "a", ("q", "r", "s", "s")),), slot="a", word="s"),
                                           slots=("a",)),
                handler(("set", "a", "x")), ("show", "a"), words=STEPS)
# Presses need two calls, hands only one.
BACK = screen(CELL, handler(TURN_A), effect(either(TURN_A, slot="a"), slots=("a",)), ("show", "a"))
BOXES = screen(BOX, CELL, handler(("fetch", "b", "y"), ("set", "a", "y"), ("write", "b", "x"), slots=("a",)),
               effect(("write", "b", "a"), slots=("a",), clean=(SAY_A,)), ("show", "a"))
NEEDLESS = screen(CELL, effect(SAY_A, slots=("x",)), effect(SAY_X, slots=None), handler(TURN_A))


def counter(word):
    """A part whose start counts on from a number of three digits to the last one, of which `word` is the last digit."""
    turn = ("q", "r", "s", "p")
    return Part(STEPS, (), (), (
        ("cell", "a", word), ("cell", "b", "s"), ("cell", "c", "p"),
        either(("put", "d", "q"), either(("put", "e", "q"), either(("put", "f", "q"), slot="c", word="s"), slot="b",
                                         word="s"),
               slot="a", word="s"),
        effect(either(other=(("turn", "a", turn), either(("turn", "b", turn), slot="d", word="q"),
                             either(("turn", "c", turn), slot="e", word="q")), slot="f", word="q"),
               slots=("a", "b", "c")),
        ("show", "a")))


# Their starts do exactly fifty calls, and one more.
FIFTY = counter("r")
FIFTY_ONE = counter("q")

NAMED = {"stale": STALE, "never": NEVER, "empty": EMPTY, "no rows": NO_ROWS, "no inputs": NO_INPUTS,
         "no events": NO_EVENTS, "two inputs": TWO_INPUTS, "slips": SLIPS, "waits": WAITS, "full": FULL, "mixed": MIXED,
         "counts": COUNTS, "back": BACK, "boxes": BOXES, "needless": NEEDLESS}
DRAWN = parts_of(21, 60) + parts_of(22, 30, steady=True)
ALL = list(NAMED.values()) + DRAWN
