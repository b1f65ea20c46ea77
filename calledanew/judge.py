"""The faults of starts and events."""

from calledanew.forms import inner_rows
from calledanew.holding import CHANGES
from calledanew.places import IFS, rows_within

KINDS = ("mixed", "old", "stale", "late", "missed", "needless", "crossed", "slip", "full", "round")

# The kind of the hook that each function row with a number is about.
LINK_KINDS = {"set": "cell", "turn": "cell", "write": "box", "fetch": "box"}


def faults(part, before, trace, after):
    """List the faults of a start or event that was not refused, in order."""
    watch = Watch(part, before)
    for item in trace:
        watch.note(item)
    return in_order(watch.found + missed_faults(part, after))


def in_order(pairs):
    """List the pairs (kind, path) without duplicates, by the order of the kinds, then by their paths."""
    ordered = sorted({(KINDS.index(kind), path) for kind, path in pairs})
    return [(KINDS[index], path) for index, path in ordered]


class Watch:
    """Goes through a trace and finds its faults, except those of the standing behind it."""

    def __init__(self, part, before):
        self.part = part
        self.found = []
        # The hooks and the words of the slots of the latest call; None until a start has done its first call.
        self.order = None
        self.now = None
        # What a body was that ran last at an effect hook, by the number of the hook.
        self.bodies = {}
        if before is not None:
            self.order = before[1]
            self.now = words_by_slot(part, before[0])
            self.bodies = bodies_in(before)

    def note(self, item):
        """Find the faults of the next item of the trace."""
        if item[0] == "kept":
            self.note_kept(item)
        elif item[0] == "call":
            self.note_call(item)
        elif item[0] == "run":
            self.note_run(item)
        elif item[0] in LINK_KINDS:
            self.note_link(item)

    def note_kept(self, item):
        """Find a kept word that is not what the table gives now."""
        if item[2] != item[3]:
            self.found.append(("old", item[1]))

    def note_call(self, item):
        """Find the hooks that took the entry of another row."""
        if self.order is not None:
            for path, earlier in zip(item[1], self.order):
                if path != earlier:
                    self.found.append(("mixed", path))
        self.order = item[1]
        self.now = words_by_slot(self.part, item[2])

    def note_run(self, item):
        """Find a run with old words, and a run of a body that repeats the one before."""
        path = item[1][:-1]
        kind = self.part.row_table[path][0]
        if kind == "handler" and len(self.old_slots(item)) > 0:
            self.found.append(("stale", path))
        if kind == "later" and not all([slot in changed_around(self.part, path) for slot in self.old_slots(item)]):
            self.found.append(("late", path))
        if kind == "effect" and item[1][-1] == 0:
            body = (item[1], item[3], item[4])
            if self.bodies.get(item[2]) == body:
                self.found.append(("needless", path))
            self.bodies[item[2]] = body

    def old_slots(self, item):
        """List the held slots whose words in this run are not those of the latest call."""
        return differing_slots(self.part, item[1], item[3], self.now)

    def note_link(self, item):
        """Find a link that leads to no entry, or to the entry of another row."""
        name = self.part.row_table[item[1]][1]
        number = item[2]
        if number is None or self.part.row_table[self.order[number]][:2] != (LINK_KINDS[item[0]], name):
            self.found.append(("crossed", item[1]))


def bodies_in(standing):
    """Return the body in each effect entry, with its path, by the number of the entry."""
    return {number: (entry[1] + (0,), entry[3][0], entry[3][1])
            for number, entry in enumerate(standing[2]) if entry[0] == "effect"}


def words_by_slot(part, words):
    """Return the words of a call or standing by their slots."""
    return {slot: word for slot, word in zip(part.slot_names, words)}


def differing_slots(part, path, words, now):
    """List the held slots of the function at the path whose words are not those of now."""
    return [slot for slot, word in zip(part.held_table[path], words) if word != now[slot]]


def changed_around(part, path):
    """List the slots that the function around a later row changes itself, outside of later rows."""
    around = path[:-2]
    rows = inner_rows(part.row_table[around])[path[-2]]
    inside = rows_within(rows, (), IFS)
    return [row[CHANGES[row[0]]] for at, row in inside if row[0] in CHANGES]


def missed_faults(part, standing):
    """List the effect hooks whose entries are not from them or hold words that are not those of the slots."""
    words, order, entries = standing[:3]
    now = words_by_slot(part, words)
    found = []
    for path, entry in zip(order, entries):
        if entry[0] == "effect":
            body = entry[1] + (0,)
            if entry[1] != path or len(differing_slots(part, body, entry[3][0], now)) > 0:
                found.append(("missed", path))
    return found
