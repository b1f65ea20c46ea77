"""The rules under which parts are called."""

from calledanew.errors import InvalidRule

BATCHES = ("together", "each")
SAMES = ("pass", "call")


class Rule:
    """When a cell is set by a run from outside, and whether a set of the same word calls."""

    def __init__(self, batch, same):
        if batch not in BATCHES:
            raise InvalidRule("batch")
        if same not in SAMES:
            raise InvalidRule("same")
        self.batch = batch
        self.same = same

    def __eq__(self, other):
        return isinstance(other, Rule) and self.batch == other.batch and self.same == other.same


def all_rules():
    """List the four rules, "together" before "each" and "pass" before "call"."""
    return [Rule(batch, same) for batch in BATCHES for same in SAMES]
