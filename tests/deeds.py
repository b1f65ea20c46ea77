"""Starts and events that several tests do, and what comes of them as plain tuples."""

from calledanew.calling import begin, step
from calledanew.errors import Slipped, TooManyCalls, TooManyLater
from calledanew.parts import Part
from calledanew.rules import Rule, all_rules
from samples import nested

PASS = Rule("together", "pass")
CALL = Rule("together", "call")
EACH = Rule("each", "pass")
EACH_CALL = Rule("each", "call")
RULES = all_rules()
WORDS = ("off", "on")
SWAP = ("on", "off")
SAME = ("off", "on")
GO = ("press", "go")
TICK = ("tick",)
ON = ("hand", "x", "on")
OFF = ("hand", "x", "off")

BAD_BOUNDS = [0, -1, 501, 502, 10 ** 30, True, False, None, "", "5", "50", (), (5,), [5], {}, {5: 5}] + list(nested(20))


def screen(*rows, inputs=("x",), events=("go",), words=WORDS):
    """A part with these call rows and no others."""
    return Part(words, inputs, events, rows)


def start(part, words=("off",), rule=PASS, most=50):
    """The Step of a start."""
    return begin(part, rule, words[:len(part.inputs)], most=most)


def go_on(part, standing, *events, rule=PASS):
    """The Step of the last event."""
    for event in events:
        last = step(part, rule, standing, event)
        standing = last.after
    return last


def played(part, *events, words=("off",), rule=PASS):
    """The Step of the last event behind a start, or of the start if there are no events."""
    first = start(part, words, rule)
    return go_on(part, first.after, *events, rule=rule) if events else first


def told(deed):
    """All that a Step tells."""
    return (deed.event, deed.before, deed.after, deed.shown, deed.said, deed.trace, deed.calls, deed.done)


def outcome(ask):
    """What a start or event tells, or the fault with which it is refused."""
    try:
        return told(ask())
    except Slipped as error:
        return ("slip", error.path)
    except TooManyLater as error:
        return ("full", error.path)
    except TooManyCalls:
        return ("round", ())


def items(deed, *kinds):
    """The items of the trace that are of these kinds."""
    return [item for item in deed.trace if item[0] in kinds]


def runs(deed):
    """The runs of a Step: path and number of each."""
    return [item[1:3] for item in items(deed, "run")]
