"""What the starts and events of a book tell, counted while the book is made."""

from calledanew.judge import faults


class Tally:
    """Takes note of starts and events, which come in the order of their least runs.

    So the first source that has something is that of the least run that has it.
    """

    def __init__(self, part):
        self.part = part
        # The first source of each fault.
        self.fault_sources = {}
        # The source of the first start, and (count, source) of most calls, and of
        # most runs of each function that was run; only of those not refused.
        self.first_source = None
        self.call_peak = (0, None)
        self.run_peaks = {}
        # The rows that were done, each with True.
        self.rows_seen = {}

    def note(self, source, outcome):
        """Take note of the start or event."""
        if outcome.deed is None:
            self.fault_sources.setdefault(outcome.refusal, source)
        else:
            self.note_deed(source, outcome.deed)

    def note_deed(self, source, deed):
        """Take note of a start or event that is not refused."""
        for fault in faults(self.part, deed.before, deed.trace, deed.after):
            self.fault_sources.setdefault(fault, source)
        if self.first_source is None:
            self.first_source = source
        if deed.calls > self.call_peak[0]:
            self.call_peak = (deed.calls, source)
        self.note_runs(source, [item[1] for item in deed.trace if item[0] == "run"])
        for path in deed.done:
            self.rows_seen[path] = True

    def note_runs(self, source, paths):
        """Take note of the functions that were run, one path for each run."""
        counts = {}
        for path in paths:
            counts[path] = counts.get(path, 0) + 1
        for path, count in counts.items():
            if path not in self.run_peaks or count > self.run_peaks[path][0]:
                self.run_peaks[path] = (count, source)
