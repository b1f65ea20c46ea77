"""What a function holds: slots that it reads first, and its cells and boxes."""

from calledanew.forms import slots_in
from calledanew.places import IFS_AND_LATER, rows_within

# The index of the slot that a row reads, and of the slot that it changes.
READS = {"say": 1, "set": 2, "write": 2, "map": 2, "if": 1}
CHANGES = {"put": 1, "map": 1, "fetch": 2}


def held_slots(rows):
    """Return the held slots of a function with these rows, in ascending order."""
    inside = rows_within(rows, (), IFS_AND_LATER)
    named = sorted({slot for path, row in inside for slot in slots_in(row)})
    return tuple([slot for slot in named if first_use(rows, slot) == "read"])


def first_use(rows, slot):
    """Tell what is done first with the slot.

    "read": some way reads it before it changes it. "changed": every way
    changes it before reading it. None: no way reads it first and some way
    leaves it unchanged, so the rows behind these still see the old word.
    """
    for row in rows:
        use = first_use_in_row(row, slot)
        if use is not None:
            return use
    return None


def first_use_in_row(row, slot):
    """Tell the same of one row."""
    if row[0] in READS and row[READS[row[0]]] == slot:
        return "read"
    if row[0] in CHANGES and row[CHANGES[row[0]]] == slot:
        return "changed"
    if row[0] == "if":
        return use_of_either(first_use(row[3], slot), first_use(row[4], slot))
    # What a later row changes is not changed on the way of this function.
    if row[0] == "later" and first_use(row[1], slot) == "read":
        return "read"
    return None


def use_of_either(first, second):
    """Join the first uses of the two ways of an if row."""
    if "read" in (first, second):
        return "read"
    return first if first == second else None


def links_of(rows):
    """Return the links of a function with these rows: its cells, then its boxes."""
    inside = rows_within(rows, (), IFS_AND_LATER)
    cells = sorted({row[1] for path, row in inside if row[0] in ("set", "turn")})
    boxes = sorted({row[1] for path, row in inside if row[0] in ("write", "fetch")})
    return tuple([("cell", slot) for slot in cells] + [("box", box) for box in boxes])
