"""The desk: a part that is edited while some kinds of faults are watched."""

from calledanew.books import Book
from calledanew.bounds import MOST_STANDINGS, USUAL_CALLS, USUAL_STANDINGS, check_bounds
from calledanew.errors import LimitExceeded, NothingToRedo, NothingToUndo
from calledanew.judge import KINDS
from calledanew.verdicts import check_kinds


class Desk:
    """A part with its edits, the rules under which it is judged, and the watched kinds."""

    def __init__(self, part, rules, *, most=USUAL_CALLS, limit=USUAL_STANDINGS):
        check_bounds(most, limit, MOST_STANDINGS)
        self.current = part
        self.rules = list(rules)
        self.most = most
        self.limit = limit
        self.watched = ()
        # The parts ahead of the edits, and those that were undone, the next one last.
        self.elders = []
        self.undone = []

    def put_part(self, part):
        """Replace the part."""
        self.elders.append(self.current)
        self.undone = []
        self.current = part

    def __ior__(self, kind):
        check_kinds([kind])
        self.watched = tuple([other for other in KINDS if other == kind or other in self.watched])
        return self

    def __getitem__(self, path):
        return self.current.row_at(path)

    def __setitem__(self, path, row):
        self.put_part(self.current.with_row(path, row))

    def __iter__(self):
        raise TypeError("the rows of a desk are asked for by their paths")

    def __len__(self):
        return len(self.elders)

    def undo(self):
        """Take back the last edit."""
        if len(self.elders) == 0:
            raise NothingToUndo()
        self.undone.append(self.current)
        self.current = self.elders.pop()

    def redo(self):
        """Do the edit again that was undone last."""
        if len(self.undone) == 0:
            raise NothingToRedo()
        self.elders.append(self.current)
        self.current = self.undone.pop()

    def verdicts(self):
        """List for each rule the watched faults of the part, None if its book has too many standings."""
        return [self.verdict_of(self.current, rule) for rule in self.rules]

    def verdict_of(self, part, rule):
        """Return the watched faults of a part under a rule, None if its book has too many standings."""
        try:
            book = Book(part, rule, most=self.most, limit=self.limit)
        except LimitExceeded:
            return None
        return book.verdict().only(self.watched)

    def attempt(self, edits):
        """List what the verdicts would be behind these edits, of which the desk keeps none."""
        part = self.current
        for path, row in edits:
            part = part.with_row(path, row)
        return [self.verdict_of(part, rule) for rule in self.rules]
