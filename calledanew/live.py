"""Live parts: a part under a rule with its history."""

from calledanew.bounds import MOST_CALLS, USUAL_CALLS, check_bound
from calledanew.calling import begin, step_from
from calledanew.errors import (InvalidEvent, InvalidStanding, NothingToUndo, UnknownEvent, UnknownInput,
                               UnknownWord)
from calledanew.histories import History
from calledanew.standings import is_event, is_standing


class Live:
    """A part under a rule that has been started or resumed, and the events done since."""

    def __init__(self, part, rule, words, *, most=USUAL_CALLS):
        # A resumed object and a fork must not start anew, and this is the only way
        # to create an object: they hand over a history where a start has its words.
        if isinstance(words, History):
            self.history = words
        else:
            start = begin(part, rule, words, most=most)
            self.history = History(start, start.after, [])
        self.part = part
        self.rule = rule
        self.most = most

    @classmethod
    def resumed(cls, part, rule, standing, *, most=USUAL_CALLS):
        """Return a live part that goes on from the standing."""
        check_bound(most, MOST_CALLS)
        if not is_standing(part, standing):
            raise InvalidStanding()
        return cls(part, rule, History(None, standing, []), most=most)

    @property
    def bound(self):
        """The greatest number of calls in one event."""
        return self.most

    def set_bound(self, value):
        """Set the greatest number of calls for the events to come."""
        check_bound(value, MOST_CALLS)
        self.most = value

    def __len__(self):
        return len(self.history.deeds)

    def __call__(self, event):
        """Do any event and return the words that it said."""
        if not is_event(self.part, event):
            raise InvalidEvent(event)
        return self.do_event(event)

    def __setitem__(self, name, word):
        self.hand(name, word)

    def press(self, event):
        """Run the function of the last handler of the event; return the words that were said."""
        if event not in self.part.events:
            raise UnknownEvent(event)
        return self.do_event(("press", event))

    def tick(self):
        """Run the function that waits longest; return the words that were said."""
        return self.do_event(("tick",))

    def hand(self, name, word):
        """Give the input the word; return the words that were said."""
        if name not in self.part.inputs:
            raise UnknownInput(name)
        if word not in self.part.words:
            raise UnknownWord(word)
        return self.do_event(("hand", name, word))

    def do_event(self, event):
        """Do a right event, add it to the history and return the words that it said."""
        deed = step_from(self.part, self.rule, self.standing(), event, self.most)
        self.history.deeds.append(deed)
        return list(deed.said)

    def undo(self):
        """Take the last event back and return it."""
        if len(self.history.deeds) == 0:
            raise NothingToUndo()
        return self.history.deeds.pop().event

    def fork(self):
        """Return a live part of its own with the same history and the same bound."""
        return Live(self.part, self.rule, self.history.copied(), most=self.most)

    def standing(self):
        """Return the standing now."""
        return self.history.standing_now()

    def screen(self):
        """Return the words that the standing shows."""
        return self.standing()[4]

    def last_trace(self):
        """Return the trace of the last event of the history."""
        return self.history.trace_now()

    def said_words(self):
        """List all words that were said in the history, the start included."""
        return [word for done in self.steps() for word in done.said]

    def events_done(self):
        """List the events of the history."""
        return [deed.event for deed in self.history.deeds]

    def steps(self):
        """Go through the Steps of the history, the start first if there was one."""
        if self.history.start is not None:
            yield self.history.start
        yield from self.history.deeds
