"""Two sides that do the same runs, and the first difference that they show."""

from calledanew.errors import LimitExceeded
from calledanew.finders import run_behind


class Couples:
    """The pairs of standings to which runs without a difference lead, in the order of their least runs.

    A standing goes by its number in the Finder of its side, a pair by its place.
    """

    def __init__(self, left, right, says_only, limit):
        self.left = left
        self.right = right
        self.says_only = says_only
        self.limit = limit
        self.known = {}
        self.placed = []
        # By the place of a pair: the source of the last event or the start of its least run.
        self.sources = []

    def keep(self, couple, source):
        """Put the pair behind the others if it was not found before."""
        if couple not in self.known:
            if len(self.placed) == self.limit:
                raise LimitExceeded(self.limit)
            self.known[couple] = True
            self.placed.append(couple)
            self.sources.append(source)

    def differs(self, source):
        """Do the start or event on both sides and tell whether it shows a difference.

        If it shows none and is not refused, the pair behind it is kept.
        """
        place, deed = source
        left, right = (None, None) if place is None else self.placed[place]
        first, second = self.left.answer((left, deed)), self.right.answer((right, deed))
        if first is None or second is None:
            return first != second
        if first[1] != second[1]:
            return True
        if not self.says_only and self.left.shown_at(first[0]) != self.right.shown_at(second[0]):
            return True
        self.keep((first[0], second[0]), source)
        return False

    def least_difference(self, starts, events):
        """Return the least run that shows a difference, None if there is none.

        It begins with one of the starts or with a pair that is kept already.
        """
        for words in starts:
            if self.differs((None, words)):
                return (words, ())
        place = 0
        while place < len(self.placed):
            for event in events:
                if self.differs((place, event)):
                    return run_behind(self.sources, (place, event))
            place += 1
        return None
