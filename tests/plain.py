"""Plain answers to compare with: all runs up to some length, each start and event done by itself."""

import itertools

from calledanew.calling import begin, step
from calledanew.errors import Slipped, TooManyCalls, TooManyLater
from calledanew.judge import faults
from calledanew.standings import all_events


def done(ask):
    """The Step of a start or event and the list of its faults; no Step if it is refused."""
    try:
        deed = ask()
    except Slipped as error:
        return None, [("slip", error.path)]
    except TooManyLater as error:
        return None, [("full", error.path)]
    except TooManyCalls:
        return None, [("round", ())]
    return deed, None


def starts_of(part):
    return list(itertools.product(part.words, repeat=len(part.inputs)))


def runs_of(part, rule, length, most=50):
    """Go through all runs up to the length, in their order: (run, Step, faults, standing behind it)."""
    behind = {}
    for count in range(length + 1):
        for words in starts_of(part):
            for events in itertools.product(all_events(part), repeat=count):
                if count > 0 and behind[(words, events[:-1])] is None:
                    behind[(words, events)] = None
                    continue
                if count == 0:
                    before = None
                    deed, found = done(lambda: begin(part, rule, words, most=most))
                else:
                    before = behind[(words, events[:-1])]
                    deed, found = done(lambda: step(part, rule, before, events[-1], most=most))
                behind[(words, events)] = before if deed is None else deed.after
                if deed is not None:
                    found = faults(part, deed.before, deed.trace, deed.after)
                yield (words, events), deed, found, behind[(words, events)]


class PlainBook:
    """What all runs up to a length tell: the first run to each standing, of each fault and of each count."""

    def __init__(self, part, rule, length, most=50):
        self.least, self.faults, self.calls, self.functions, self.rows = {}, {}, {}, {}, set()
        for run, deed, found, behind in runs_of(part, rule, length, most):
            if behind is not None:
                self.least.setdefault(behind, run)
            for fault in found:
                self.faults.setdefault(fault, run)
            if deed is not None:
                self.calls.setdefault(deed.calls, run)
                paths = [item[1] for item in deed.trace if item[0] == "run"]
                for path in part.functions():
                    self.functions.setdefault(path, {}).setdefault(paths.count(path), run)
                self.rows.update(deed.done)


def replayed(part, rule, run, most=50):
    """The Steps of a run, None for each refused start or event, and the standing behind it."""
    words, events = run
    deeds = [done(lambda: begin(part, rule, words, most=most))[0]]
    standing = None if deeds[0] is None else deeds[0].after
    for event in events if standing is not None else ():
        deed = done(lambda: step(part, rule, standing, event, most=most))[0]
        deeds.append(deed)
        standing = standing if deed is None else deed.after
    return deeds, standing
