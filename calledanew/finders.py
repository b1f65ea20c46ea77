"""Starts and events with all that becomes of them, and the standings that they lead to.

A source says where a start or an event is done: (None, words) is a start, and
(number, event) is an event from the standing with this number.
"""

from calledanew.calling import begin, step_from
from calledanew.errors import Slipped, TooManyCalls, TooManyLater


class Outcome:
    """What becomes of a start or event: its Step, or None and the one fault of a refused one."""

    def __init__(self, deed, refusal):
        self.deed = deed
        self.refusal = refusal


class Finder:
    """Does the starts and events of a part under a rule; the standings get numbers as they are found."""

    def __init__(self, part, rule, most):
        self.part = part
        self.rule = rule
        self.most = most
        self.found = []
        self.numbers = {}
        # By their sources: None for a refused start or event, otherwise
        # (number of the standing behind it, words said).
        self.answers = {}

    def outcome(self, source):
        """Do the start or event, keep its answer and return what becomes of it."""
        number, deed = source
        before = None if number is None else self.found[number]
        done = outcome_of(self.part, self.rule, self.most, before, deed)
        self.answers[source] = None if done.deed is None else (self.number_of(done.deed.after), done.deed.said)
        return done

    def answer(self, source):
        """Return the answer of the start or event, which is done only once."""
        if source not in self.answers:
            self.outcome(source)
        return self.answers[source]

    def number_of(self, standing):
        """Return the number of the standing, a new one if it was not found before."""
        if standing not in self.numbers:
            self.numbers[standing] = len(self.found)
            self.found.append(standing)
        return self.numbers[standing]

    def shown_at(self, number):
        """Return the words that are shown in the standing with this number."""
        return self.found[number][4]


def outcome_of(part, rule, most, before, deed):
    """Do the event `deed` from the standing `before`, or the start with the words `deed` if that is None."""
    try:
        if before is None:
            return Outcome(begin(part, rule, deed, most=most), None)
        return Outcome(step_from(part, rule, before, deed, most), None)
    except Slipped as slip:
        return Outcome(None, ("slip", slip.path))
    except TooManyLater as full:
        return Outcome(None, ("full", full.path))
    except TooManyCalls:
        return Outcome(None, ("round", ()))


def all_starts(part):
    """List the tuples of words of the inputs, in the order of the starts."""
    starts = [()]
    for name in part.inputs:
        starts = [words + (word,) for words in starts for word in part.words]
    return starts


def run_behind(sources, source):
    """Return the run that ends with this source.

    `sources` has, by its number, the source of each standing on the way.
    """
    events = []
    number, deed = source
    while number is not None:
        events.append(deed)
        number, deed = sources[number]
    return (deed, tuple(events[::-1]))
