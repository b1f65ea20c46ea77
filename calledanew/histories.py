"""What a live part has been through."""


class History:
    """The Step of the start and those of the events behind it.

    `start` is None if the history was taken up in a given standing, `origin`.
    """

    def __init__(self, start, origin, deeds):
        self.start = start
        self.origin = origin
        self.deeds = deeds

    def copied(self):
        """Return a history of its own with the same Steps."""
        return History(self.start, self.origin, list(self.deeds))

    def standing_now(self):
        """Return the standing behind the last event."""
        if len(self.deeds) > 0:
            return self.deeds[-1].after
        return self.origin

    def trace_now(self):
        """Return the trace of the last event, or of the start, or an empty one."""
        if len(self.deeds) > 0:
            return self.deeds[-1].trace
        return () if self.start is None else self.start.trace
