"""Parts and lists of events as texts."""

from calledanew.blocks import PartReader
from calledanew.errors import InvalidText
from calledanew.forms import DIVIDERS, FORMS, MARKS, inner_rows
from calledanew.parts import Part
from calledanew.values import is_name

# How many names stand in the line of an event of each kind.
EVENT_NAMES = {"press": 1, "tick": 0, "hand": 2}


def format_part(part):
    """Return the text of the part."""
    lines = [" ".join(("words",) + part.words), " ".join(("inputs",) + part.inputs),
             " ".join(("events",) + part.events)]
    return joined(lines + lines_of_rows(part.rows))


def joined(lines):
    """Return the lines as one text, a newline behind each."""
    return "".join([line + "\n" for line in lines])


def lines_of_rows(rows):
    """List the lines of a tuple of rows."""
    return [line for row in rows for line in lines_of_row(row)]


def lines_of_row(row):
    """List the lines of a row: one, or a block."""
    lines = [" ".join(items_of_row(row))]
    for number, rows in enumerate(inner_rows(row)):
        if number > 0:
            lines.append(DIVIDERS[row[0]])
        lines.extend(lines_of_rows(rows))
    if len(inner_rows(row)) > 0:
        lines.append("end")
    return lines


def items_of_row(row):
    """List the items of the row's first line."""
    items = [row[0]]
    for role, item in zip(FORMS[row[0]], row[1:]):
        if role in MARKS:
            items.extend(() if item is None else (MARKS[role],) + item)
        elif role != "rows":
            items.append(item)
    return items


def lines_in(text):
    """List the lines of a text, of which the last one must end with a newline, too."""
    if not text.endswith("\n"):
        raise InvalidText(0)
    return text.split("\n")[:-1]


def parse_part(text):
    """Return the part that the text describes."""
    lines = lines_in(text)
    reader = PartReader()
    for number, line in enumerate(lines, start=1):
        if not reader.takes(line):
            raise InvalidText(number)
    if not reader.is_whole():
        raise InvalidText(len(lines) + 1)
    words, inputs, events = reader.heads
    return Part(words, inputs, events, reader.rows_read())


def format_events(events):
    """Return the text of the list of events."""
    return joined([" ".join(event) for event in events])


def parse_events(text):
    """Return the list of events that the text describes."""
    if text == "":
        return []
    events = []
    for number, line in enumerate(lines_in(text), start=1):
        kind, *names = line.split(" ")
        if EVENT_NAMES.get(kind) != len(names) or not all([is_name(name) for name in names]):
            raise InvalidText(number)
        events.append((kind, *names))
    return events
