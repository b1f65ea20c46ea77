"""One call: the rows from the top, and the functions that are made at its end."""

from calledanew.courses import do_plain_row, turned, way_of
from calledanew.errors import Slipped
from calledanew.forms import HOOK_KINDS, LIST_PLACES, inner_rows


class Call:
    """A call under way: its slots, and the hooks that it has come to."""

    def __init__(self, course):
        part = course.part
        self.course = course
        self.slot_words = {slot: part.words[0] for slot in part.slots()}
        for slot, word in zip(part.inputs, course.given):
            self.slot_words[slot] = word
        self.is_first = course.entries is None
        self.entries = [] if self.is_first else course.entries
        self.paths = []
        # The number of the entry that each cell or box row took, by the link that leads to it.
        self.numbers = {}
        self.shown = []

    def do_rows(self, path):
        """Do the tuple of rows at the path."""
        self.course.marks[path] = True
        for at, row in self.course.part.placed_rows[path]:
            if row[0] in HOOK_KINDS:
                self.do_hook(row, at)
            elif row[0] == "if":
                self.do_rows(at + (way_of(row, self.slot_words),))
            elif row[0] == "show":
                self.shown.append(self.slot_words[row[1]])
            else:
                do_plain_row(self.course.part, row, self.slot_words)

    def do_hook(self, row, at):
        """Take the next entry, and do at the row what a hook of this kind does there."""
        number = len(self.paths)
        self.paths.append(at)
        if self.is_first:
            self.entries.append(first_entry(row))
        elif number == len(self.entries) or self.entries[number][0] != row[0]:
            raise Slipped(at)
        if row[0] in ("cell", "box"):
            self.numbers[row[:2]] = number
        if row[0] == "cell":
            self.slot_words[row[1]] = self.entries[number][1]
        if row[0] == "kept":
            self.do_kept(row, at, number)

    def do_kept(self, row, at, number):
        """Work out the kept word anew if a word of the list has changed."""
        now = turned(self.course.part, row[3], self.slot_words[row[2]])
        list_words = self.words_of_list(row)
        elder = self.entries[number]
        if elder is None or elder[2] != list_words:
            self.entries[number] = ("kept", now, list_words)
        word = self.entries[number][1]
        self.slot_words[row[1]] = word
        self.course.trace.append(("kept", at, word, now))

    def words_of_list(self, row):
        """Return the words of the row's list as the slots stand now, None if it is None."""
        listed = row[LIST_PLACES[row[0]]]
        if listed is None:
            return None
        return tuple([self.slot_words[slot] for slot in listed])

    def renew_functions(self):
        """Renew the handlers and effects that are due.

        List (number, elder entry) of these effects; in a first call no entry is elder.
        """
        due = []
        for number, path in enumerate(self.paths):
            row = self.course.part.row_table[path]
            if row[0] in ("effect", "handler"):
                elder = self.entries[number]
                list_words = self.words_of_list(row)
                if is_due(self.course.part, row, list_words, elder):
                    self.entries[number] = (row[0], path, list_words) + self.functions_made(row, path)
                    if row[0] == "effect":
                        due.append((number, elder))
        return due

    def functions_made(self, row, path):
        """Return the made functions of the effect or handler row."""
        return tuple([self.made(path + (number,)) for number in range(len(inner_rows(row)))])

    def made(self, path):
        """Return the function at the path with the words and numbers of this call."""
        part = self.course.part
        words = tuple([self.slot_words[slot] for slot in part.held_table[path]])
        return (words, tuple([self.numbers.get(link) for link in part.link_table[path]]))

    def leave(self):
        """Let the course go on with what this call leaves."""
        course = self.course
        course.words = tuple([self.slot_words[slot] for slot in course.part.slots()])
        course.order = tuple(self.paths)
        course.entries = self.entries
        course.shown = tuple(self.shown)
        course.trace.append(("call", course.order, course.words, course.shown))
        course.count += 1


def first_entry(row):
    """Return the entry with which a hook begins, None if it is made later in the first call."""
    return (row[0], row[2]) if row[0] in ("cell", "box") else None


def is_due(part, row, list_words, elder):
    """Tell whether an effect or handler with these words of its list is renewed."""
    if elder is None or list_words is None or elder[2] != list_words:
        return True
    return row[0] == "handler" and part.row_table[elder[1]][1] != row[1]


def do_call(course):
    """Do one call and list (number, elder entry) of the effects that are due."""
    call = Call(course)
    call.do_rows(())
    if len(call.paths) < len(call.entries):
        raise Slipped(())
    due = call.renew_functions()
    call.leave()
    return due
