"""Parts and histories that are drawn from a seed, the same ones each time."""

import random

from calledanew.calling import begin, step
from calledanew.errors import CalledError, InvalidPart
from calledanew.parts import Part
from calledanew.standings import all_events

SLOTS = ("a", "b", "c", "k", "m", "x", "y")
FUNCTION_KINDS = ("say", "say", "put", "map", "set", "turn", "turn", "write", "fetch", "if")
CALL_KINDS = ("kept", "effect", "effect", "effect", "put", "map", "show", "show")


class PartMaker:
    """Draws parts; in a steady one no hook stands inside an if row."""

    def __init__(self, seed, steady):
        self.draw = random.Random(seed)
        self.steady = steady

    def part(self):
        """Draw until the components make a part."""
        while True:
            self.words = ("p", "q", "r")[:self.draw.choice([2, 2, 3])]
            self.inputs = ("x", "y")[:self.draw.choice([0, 1, 1, 2])]
            self.events = ("go", "up")[:self.draw.choice([0, 1, 2])]
            self.cells = self.draw.sample(["a", "b", "c"], self.draw.choice([0, 1, 2, 2]))
            self.boxes = self.draw.sample(["a", "z"], self.draw.choice([0, 1, 1]))
            rows = [self.call_row(1) for count in range(self.draw.randint(1, 6))]
            for row in self.makers():
                rows.insert(self.draw.randint(0, len(rows)), row)
            try:
                return Part(self.words, self.inputs, self.events, tuple(rows))
            except InvalidPart:
                continue

    def makers(self):
        """Rows that make the cells and boxes, now and then inside an if row."""
        rows = [("cell", cell, self.word()) for cell in self.cells] + [("box", box, self.word()) for box in self.boxes]
        if not self.steady and len(rows) > 1 and rows[0][0] == rows[1][0] and self.draw.random() < 0.5:
            rows[:2] = [("if", self.slot(), self.word(), (rows[0],), (rows[1],))]
        elif not self.steady and rows and self.draw.random() < 0.5:
            rows[0] = ("if", self.slot(), self.word(), (rows[0],), ())
        return rows

    def word(self):
        return self.draw.choice(self.words)

    def slot(self):
        return self.draw.choice(SLOTS)

    def own(self):
        return self.draw.choice([slot for slot in SLOTS if slot not in self.inputs])

    def table(self):
        return tuple([self.word() for word in self.words])

    def listed(self):
        return tuple(self.draw.sample(SLOTS, self.draw.choice([0, 1, 1, 2, 3])))

    def call_row(self, depth):
        kinds = CALL_KINDS + (("handler",) * 3 if self.events else ()) + (("if",) * 2 if depth < 3 else ())
        kind = self.draw.choice(kinds)
        while self.steady and depth > 1 and kind in ("kept", "effect", "handler"):
            kind = self.draw.choice(kinds)
        if kind == "if":
            return self.call_if(depth)
        return self.plain_call_row(kind)

    def plain_call_row(self, kind):
        if kind == "kept":
            return (kind, self.own(), self.slot(), self.table(), self.listed())
        if kind == "effect":
            body = self.function_rows("body", 1, 3)
            return (kind, self.draw.choice([None, self.listed(), self.listed()]), body,
                    self.function_rows("clean", 1, 2))
        if kind == "handler":
            body = self.function_rows("body", 1, 4)
            return (kind, self.draw.choice(self.events), self.draw.choice([None, self.listed(), self.listed()]), body)
        if kind == "put":
            return (kind, self.own(), self.word())
        return ("show", self.slot()) if kind == "show" else ("map", self.own(), self.slot(), self.table())

    def call_if(self, depth):
        """An if row whose halves often have hooks of the same kinds."""
        first = tuple([self.call_row(depth + 1) for count in range(self.draw.choice([0, 1, 2]))])
        if self.draw.random() < 0.6:
            second = tuple([row if row[0] == "if" else self.plain_call_row(row[0]) for row in first])
        else:
            second = tuple([self.call_row(depth + 1) for count in range(self.draw.choice([0, 1, 2]))])
        return ("if", self.slot(), self.word(), first, second)

    def function_rows(self, zone, depth, most):
        return tuple([self.function_row(zone, depth) for count in range(self.draw.randint(0, most))])

    def function_row(self, zone, depth):
        kinds = [kind for kind in FUNCTION_KINDS if (self.cells or kind not in ("set", "turn"))
                 and (self.boxes or kind not in ("write", "fetch")) and (depth < 3 or kind != "if")]
        kind = self.draw.choice(kinds + (["later"] if zone == "body" and depth == 1 else []))
        if kind == "say":
            return (kind, self.slot())
        if kind in ("set", "turn"):
            return (kind, self.draw.choice(self.cells), self.slot() if kind == "set" else self.table())
        if kind in ("write", "fetch"):
            return (kind, self.draw.choice(self.boxes), self.slot())
        if kind == "put":
            return (kind, self.slot(), self.word())
        if kind == "map":
            return (kind, self.slot(), self.slot(), self.table())
        if kind == "later":
            return (kind, self.function_rows("later", 1, 2))
        return (kind, self.slot(), self.word(), self.function_rows(zone, depth + 1, 2),
                self.function_rows(zone, depth + 1, 2))


def parts_of(seed, count, steady=False):
    """List some parts."""
    maker = PartMaker(seed, steady)
    return [maker.part() for number in range(count)]


def history_of(part, rule, seed, length=10):
    """List the Steps of a history with drawn words and events; what is refused is left out."""
    draw = random.Random(seed)
    words = tuple([draw.choice(part.words) for name in part.inputs])
    try:
        deeds = [begin(part, rule, words)]
    except CalledError:
        return []
    for count in range(length):
        try:
            deeds.append(step(part, rule, deeds[-1].after, draw.choice(all_events(part))))
        except CalledError:
            continue
    return deeds
