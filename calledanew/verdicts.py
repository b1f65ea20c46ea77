"""Verdicts: sets of faults without a part."""

from calledanew.errors import InvalidKind
from calledanew.judge import KINDS, in_order


class Verdict:
    """A set of pairs (kind, path). It never changes."""

    def __init__(self, pairs):
        check_kinds([kind for kind, path in pairs])
        self.ordered = tuple(in_order(pairs))

    def pairs(self):
        """List the pairs in order."""
        return list(self.ordered)

    def kinds(self):
        """List the kinds of the pairs in order."""
        named = [kind for kind, path in self.ordered]
        return [kind for kind in KINDS if kind in named]

    def only(self, kinds):
        """Return the verdict of the pairs whose kind is one of these."""
        return Verdict([pair for pair in self.ordered if pair[0] in kinds])

    def __or__(self, other):
        return Verdict(self.ordered + other.ordered)

    def __and__(self, other):
        return Verdict([pair for pair in self.ordered if pair in other.ordered])

    def __sub__(self, other):
        return Verdict([pair for pair in self.ordered if pair not in other.ordered])

    def __eq__(self, other):
        return isinstance(other, Verdict) and self.ordered == other.ordered

    def __len__(self):
        return len(self.ordered)

    def __bool__(self):
        return bool(len(self.ordered) > 0)

    def __contains__(self, pair):
        return pair in self.ordered


def check_kinds(kinds):
    """Refuse the first string that is no kind of fault."""
    for kind in kinds:
        if kind not in KINDS:
            raise InvalidKind(kind)
