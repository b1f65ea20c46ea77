"""Counts over books and runs: calls, runs of functions, and rows that are never done."""

from calledanew.bounds import MOST_CALLS, USUAL_CALLS, check_bound
from calledanew.calling import check_start
from calledanew.errors import InvalidEvent, NoFunction
from calledanew.finders import outcome_of, run_behind
from calledanew.rules import all_rules
from calledanew.standings import is_event
from calledanew.values import is_path


def most_calls(book):
    """Return the greatest number of calls in one start or event, and the least run that ends with it."""
    return peak_with_run(book, book.tally.call_peak)


def most_runs(book, path):
    """Return the same for the runs of the function at the path."""
    if not is_path(path) or path not in book.part.held_table:
        raise NoFunction(path)
    never = (0, book.tally.first_source)
    return peak_with_run(book, book.tally.run_peaks.get(path, never))


def peak_with_run(book, peak):
    """Return the count and the run of a peak, None if some calls of the book never end."""
    if ("round", ()) in book.tally.fault_sources:
        return None
    count, source = peak
    return (count, None if source is None else run_behind(book.sources, source))


def never_done(book):
    """List the paths of the rows that no start and no event of the book does."""
    return [path for path in book.part.row_paths() if path not in book.tally.rows_seen]


def costs(part, run, *, most=USUAL_CALLS):
    """List for each rule (calls, runs of functions) in the whole run, or None if something of it is refused."""
    check_bound(most, MOST_CALLS)
    words, events = run
    check_start(part, words)
    for event in events:
        if not is_event(part, event):
            raise InvalidEvent(event)
    return [cost(part, rule, most, [words, *events]) for rule in all_rules()]


def cost(part, rule, most, deeds):
    """Return (calls, runs) of a start and the events behind it, None if one of them is refused."""
    calls = 0
    runs = 0
    standing = None
    for deed in deeds:
        done = outcome_of(part, rule, most, standing, deed).deed
        if done is None:
            return None
        standing = done.after
        calls += done.calls
        runs += len([item for item in done.trace if item[0] == "run"])
    return (calls, runs)
