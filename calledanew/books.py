"""Books: all standings to which the runs of a part lead."""

from calledanew.bounds import (MOST_CALLS, MOST_STANDINGS, USUAL_CALLS, USUAL_STANDINGS, check_bound,
                               check_bounds)
from calledanew.classing import numbers_of_classes
from calledanew.errors import InvalidEvent, LimitExceeded, NoFault, NoStanding
from calledanew.finders import Finder, all_starts, outcome_of, run_behind
from calledanew.judge import in_order
from calledanew.standings import all_events, is_event, is_standing
from calledanew.tallies import Tally
from calledanew.values import is_path
from calledanew.verdicts import Verdict, check_kinds


class Book:
    """The standings of a part under a rule, found in the order of their least runs. It never changes."""

    def __init__(self, part, rule, *, most=USUAL_CALLS, limit=USUAL_STANDINGS):
        check_bounds(most, limit, MOST_STANDINGS)
        self.part = part
        self.rule = rule
        self.most = most
        self.limit = limit
        self.events = all_events(part)
        self.finder = Finder(part, rule, most)
        self.tally = Tally(part)
        # By the number of a standing: the source of the last event or the start of its least run.
        self.sources = []
        self.fill()
        self.ordered = in_order(list(self.tally.fault_sources))
        # The numbers of the classes, once they were asked for.
        self.classed = None

    def fill(self):
        """Do all starts, then all events from each standing in turn."""
        for words in all_starts(self.part):
            self.note_source((None, words))
        number = 0
        while number < len(self.sources):
            for event in self.events:
                self.note_source((number, event))
            number += 1

    def note_source(self, source):
        """Do the start or event; a standing that was not found before has its least run here."""
        self.tally.note(source, self.finder.outcome(source))
        if len(self.finder.found) > len(self.sources):
            self.sources.append(source)
        if len(self.sources) > self.limit:
            raise LimitExceeded(self.limit)

    def __len__(self):
        return len(self.sources)

    def __contains__(self, value):
        return is_standing(self.part, value) and value in self.finder.numbers

    def number_at(self, value):
        """Return the number of the standing in the order of the book."""
        if value not in self:
            raise NoStanding()
        return self.finder.numbers[value]

    def class_numbers(self):
        """Return for each standing the number of its class: the same number means that two are alike."""
        if self.classed is None:
            self.classed = numbers_of_classes(self.finder, self.events)
        return self.classed

    def moves(self):
        """List the events of the book."""
        return list(self.events)

    def starts(self):
        """List (words, standing) of each start; the standing is None if it is refused."""
        answers = [(words, self.finder.answer((None, words))) for words in all_starts(self.part)]
        return [(words, None if answer is None else self.finder.found[answer[0]]) for words, answer in answers]

    def standings(self):
        """List the standings."""
        return list(self.finder.found)

    def least_run(self, standing):
        """Return the least run that leads to the standing."""
        return run_behind(self.sources, self.sources[self.number_at(standing)])

    def follow(self, standing, event):
        """Return the standing behind the event and the words said, or None if the event is refused."""
        number = self.number_at(standing)
        if not is_event(self.part, event):
            raise InvalidEvent(event)
        answer = self.finder.answer((number, event))
        return None if answer is None else (self.finder.found[answer[0]], answer[1])

    def faults(self):
        """List the faults."""
        return list(self.ordered)

    def least_fault(self, kind, path):
        """Return the least run that has the fault at its end."""
        if not isinstance(kind, str) or not is_path(path) or (kind, path) not in self.tally.fault_sources:
            raise NoFault(kind, path)
        return run_behind(self.sources, self.tally.fault_sources[(kind, path)])

    def is_free(self, kind):
        """Tell whether the book has no fault of this kind."""
        check_kinds([kind])
        return not any([kind == other for other, path in self.ordered])

    def verdict(self):
        """Return the faults as a Verdict."""
        return Verdict(self.ordered)

    def way(self, first, second):
        """Return the least tuple of events from the first standing to the second one, None if there is none."""
        number, goal = self.number_at(first), self.number_at(second)
        sources = {number: (None, ())}
        reached = [number]
        at = 0
        while at < len(reached) and goal not in sources:
            for event in self.events:
                answer = self.finder.answer((reached[at], event))
                if answer is not None and answer[0] not in sources:
                    sources[answer[0]] = (reached[at], event)
                    reached.append(answer[0])
            at += 1
        return run_behind(sources, sources[goal])[1] if goal in sources else None


def is_closed(part, rule, value, *, most=USUAL_CALLS):
    """Tell whether the value is a list of standings that no start and no event leads out of."""
    check_bound(most, MOST_CALLS)
    if not isinstance(value, list) or not all([is_standing(part, item) for item in value]):
        return False
    held = {standing: True for standing in value}
    events = all_events(part)
    starts = [(None, words) for words in all_starts(part)]
    for before, deed in starts + [(standing, event) for standing in held for event in events]:
        done = outcome_of(part, rule, most, before, deed).deed
        if done is not None and done.after not in held:
            return False
    return True
