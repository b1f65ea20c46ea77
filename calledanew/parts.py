"""Parts of a screen: their components and what can be asked about their rows."""

from calledanew.checks import check_part
from calledanew.errors import InvalidPath
from calledanew.forms import HOOK_KINDS, slots_in
from calledanew.holding import held_slots, links_of
from calledanew.places import ALL_ROWS, functions_within, rows_with, rows_within, tuples_within
from calledanew.values import is_path


class Part:
    """A part: words, inputs, events and the rows of its call. It never changes.

    What its methods answer is worked out once, when the part is created.
    """

    def __init__(self, words, inputs, events, rows):
        check_part(words, inputs, events, rows)
        self.words = words
        self.inputs = inputs
        self.events = events
        self.rows = rows
        functions = functions_within(rows, ())
        self.placed_rows = {path: placed for path, placed in tuples_within(rows, ())}
        self.row_table = {path: row for path, row in rows_within(rows, (), ALL_ROWS)}
        self.held_table = {path: held_slots(inner) for path, inner in functions}
        self.link_table = {path: links_of(inner) for path, inner in functions}
        self.slot_names = inputs + other_slots(inputs, self.row_table)

    def __eq__(self, other):
        return (isinstance(other, Part) and self.words == other.words and self.inputs == other.inputs
                and self.events == other.events and self.rows == other.rows)

    def slots(self):
        """Return the inputs in their order and all other named slots, ascending."""
        return self.slot_names

    def hooks(self):
        """List the paths of the hooks in program order."""
        return [path for path, row in self.row_table.items() if row[0] in HOOK_KINDS]

    def functions(self):
        """List the paths of the functions in program order."""
        return list(self.held_table)

    def held(self, path):
        """Return the held slots of the function at the path, ascending."""
        if not is_path(path) or path not in self.held_table:
            raise InvalidPath(path)
        return self.held_table[path]

    def links(self, path):
        """Return the links of the function at the path: its cells, then its boxes."""
        if not is_path(path) or path not in self.link_table:
            raise InvalidPath(path)
        return self.link_table[path]

    def is_steady(self):
        """Tell whether no hook stands inside an if row."""
        return all([len(path) == 1 for path in self.hooks()])

    def row_paths(self):
        """List the paths of all rows in program order."""
        return list(self.row_table)

    def row_at(self, path):
        """Return the row at the path."""
        if not is_path(path) or path not in self.row_table:
            raise InvalidPath(path)
        return self.row_table[path]

    def with_row(self, path, row):
        """Return a new part in which `row` stands at the path."""
        if not is_path(path) or path not in self.row_table:
            raise InvalidPath(path)
        return Part(self.words, self.inputs, self.events, rows_with(self.rows, path, row))


def other_slots(inputs, row_table):
    """Return the slots that rows name and that are no inputs, ascending."""
    named = sorted({slot for row in row_table.values() for slot in slots_in(row)})
    return tuple([slot for slot in named if slot not in inputs])
