"""What changes in the course of one start or event."""


class Course:
    """A start or event under way: the standing as it changes, and what is told of it.

    Nothing else changes while it goes on, so a refused one is just dropped.
    """

    def __init__(self, part, rule, most, given):
        self.part = part
        self.rule = rule
        self.most = most
        # The words that the inputs hold.
        self.given = given
        self.words = ()
        self.order = ()
        # None until the first call of a history makes the entries.
        self.entries = None
        self.waiting = []
        self.shown = ()
        self.trace = []
        # The paths of the tuples of rows that were gone through, each with True.
        self.marks = {}
        self.count = 0

    def rows_done(self):
        """Return the paths of the rows that were done, in program order.

        Whoever begins with a tuple of rows does all of them, unless the whole is refused.
        """
        return tuple(sorted([at for path in self.marks for at, row in self.part.placed_rows[path]]))

    def state(self):
        """Return what has become of the standing."""
        return (self.words, self.order, tuple(self.entries), tuple(self.waiting), self.shown)


def course_from(part, rule, most, standing):
    """Return a course that goes on from the standing."""
    words, order, entries, waiting, shown = standing
    course = Course(part, rule, most, words[:len(part.inputs)])
    course.words = words
    course.order = order
    course.entries = list(entries)
    course.waiting = list(waiting)
    course.shown = shown
    return course


def turned(part, table, word):
    """Return what the table makes of the word."""
    return table[part.words.index(word)]


def do_plain_row(part, row, slot_words):
    """Do a put or map row, which is done alike in calls and in runs."""
    if row[0] == "put":
        slot_words[row[1]] = row[2]
    else:
        slot_words[row[1]] = turned(part, row[3], slot_words[row[2]])


def way_of(row, slot_words):
    """Return which of its two tuples of rows an if row goes into."""
    return 0 if slot_words[row[1]] == row[2] else 1
