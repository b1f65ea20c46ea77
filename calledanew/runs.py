"""Runs of functions, and the calls that follow from them."""

from calledanew.callrows import do_call
from calledanew.courses import do_plain_row, turned, way_of
from calledanew.errors import TooManyCalls, TooManyLater
from calledanew.standings import MOST_WAITING


class Run:
    """A run of a function: its slots and its links."""

    def __init__(self, course, path, made, at_once):
        self.course = course
        self.slot_words = dict(zip(course.part.held_table[path], made[0]))
        self.leads = course.part.link_table[path]
        self.numbers = made[1]
        # Whether each set or turn is applied by itself, or gathered for the end.
        self.at_once = at_once
        self.changes = []

    def number_of(self, link):
        """Return the number of the entry that the link leads to, or None."""
        return self.numbers[self.leads.index(link)]

    def do_rows(self, path):
        """Do the tuple of rows at the path."""
        trace, slot_words = self.course.trace, self.slot_words
        self.course.marks[path] = True
        for at, row in self.course.part.placed_rows[path]:
            if row[0] == "say":
                trace.append(("say", at, slot_words[row[1]]))
            elif row[0] == "if":
                self.do_rows(at + (way_of(row, slot_words),))
            else:
                self.do_row(row, at)

    def do_row(self, row, at):
        """Do a row that is neither a say row nor an if row."""
        if row[0] in ("set", "turn"):
            self.do_change(row, at)
        elif row[0] == "write":
            self.do_write(row, at)
        elif row[0] == "fetch":
            self.do_fetch(row, at)
        elif row[0] == "later":
            self.put_off(row, at)
        else:
            do_plain_row(self.course.part, row, self.slot_words)

    def do_change(self, row, at):
        """Gather a set or turn, or apply it with all that follows.

        A change is (number, table): a set is a turn of every word into the same one.
        """
        number = self.number_of(("cell", row[1]))
        if row[0] == "set":
            word = self.slot_words[row[2]]
            self.course.trace.append(("set", at, number, word))
            change = (number, (word,) * len(self.course.part.words))
        else:
            self.course.trace.append(("turn", at, number))
            change = (number, row[2])
        if self.at_once:
            follow(self.course, [change])
        else:
            self.changes.append(change)

    def do_write(self, row, at):
        """Change the word of the box entry at once."""
        number = self.number_of(("box", row[1]))
        word = self.slot_words[row[2]]
        if number is not None:
            self.course.entries[number] = ("box", word)
        self.course.trace.append(("write", at, number, word))

    def do_fetch(self, row, at):
        """Read the word that the box entry has at this moment."""
        number = self.number_of(("box", row[1]))
        word = self.course.part.words[0] if number is None else self.course.entries[number][1]
        self.slot_words[row[2]] = word
        self.course.trace.append(("fetch", at, number, word))

    def put_off(self, row, at):
        """Put the function of a later row behind those that wait."""
        if len(self.course.waiting) == MOST_WAITING:
            raise TooManyLater(at)
        path = at + (0,)
        words = tuple([self.slot_words[slot] for slot in self.course.part.held_table[path]])
        numbers = tuple([self.number_of(link) for link in self.course.part.link_table[path]])
        self.course.waiting.append((path, words, numbers))
        self.course.trace.append(("later", at, words, numbers))


def run_function(course, path, number, made, at_once):
    """Run a function and list the sets and turns that it has gathered."""
    course.trace.append(("run", path, number) + made)
    run = Run(course, path, made, at_once)
    run.do_rows(path)
    return run.changes


def follow(course, changes):
    """Apply the changes and call the part anew until that changes nothing more."""
    while apply_changes(course, changes):
        changes = call_anew(course)


def apply_changes(course, changes):
    """Apply the changes in order and tell whether the part is to be called anew."""
    before = list(course.entries)
    applied = [change for change in changes if change[0] is not None]
    for number, table in applied:
        word = turned(course.part, table, course.entries[number][1])
        course.entries[number] = ("cell", word)
        course.trace.append(("cell", number, word))
    if course.rule.same == "call":
        return len(applied) > 0
    return course.entries != before


def call_anew(course):
    """Do a call and run its due effects; list the sets and turns that these have gathered."""
    if course.count == course.most:
        raise TooManyCalls(course.most)
    due = do_call(course)
    changes = []
    for number, elder in due:
        if elder is not None:
            changes.extend(run_clean(course, number, elder))
    for number, elder in due:
        entry = course.entries[number]
        changes.extend(run_function(course, entry[1] + (0,), number, entry[3], False))
    return changes


def run_clean(course, number, elder):
    """Run the clean of the elder entry, if it has rows."""
    path = elder[1] + (1,)
    if len(course.part.placed_rows[path]) == 0:
        return []
    return run_function(course, path, number, elder[4], False)


def call_and_follow(course):
    """Call the part, with all that follows."""
    follow(course, call_anew(course))


def run_from_outside(course, path, number, made):
    """Run a function for an event, with all that follows."""
    follow(course, run_function(course, path, number, made, course.rule.batch == "each"))


def do_event(course, event):
    """Do the event, with all that follows."""
    if event[0] == "press":
        press(course, event[1])
    elif event[0] == "tick":
        tick(course)
    else:
        hand(course, event[1], event[2])


def press(course, event):
    """Run the function in the entry of the last handler hook that has the event."""
    for number in reversed(range(len(course.order))):
        row = course.part.row_table[course.order[number]]
        if row[:2] == ("handler", event):
            entry = course.entries[number]
            run_from_outside(course, entry[1] + (0,), number, entry[3])
            return


def tick(course):
    """Run the function that waits longest."""
    if len(course.waiting) > 0:
        path, words, numbers = course.waiting.pop(0)
        run_from_outside(course, path, None, (words, numbers))


def hand(course, name, word):
    """Give the input the word and call the part anew, unless that is left out."""
    at = course.part.inputs.index(name)
    if course.rule.same == "call" or course.given[at] != word:
        course.given = course.given[:at] + (word,) + course.given[at + 1:]
        call_and_follow(course)
