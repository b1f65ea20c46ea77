"""Parts under rules, and standings of a book, that cannot be told apart."""

from calledanew.bounds import MOST_PAIRS, USUAL_CALLS, USUAL_PAIRS, check_bounds
from calledanew.couples import Couples
from calledanew.errors import NotComparable
from calledanew.finders import Finder, all_starts
from calledanew.standings import all_events


def difference(first, second, *, says_only=False, most=USUAL_CALLS, limit=USUAL_PAIRS):
    """Return the least run in which two pairs (part, rule) show or say different words, None if there is none."""
    check_bounds(most, limit, MOST_PAIRS)
    part = first[0]
    check_comparable(part, second[0])
    left, right = [Finder(other, rule, most) for other, rule in (first, second)]
    return Couples(left, right, says_only, limit).least_difference(all_starts(part), all_events(part))


def check_comparable(first, second):
    """Refuse two parts with different words, inputs or events."""
    if first.words != second.words:
        raise NotComparable("words")
    if first.inputs != second.inputs:
        raise NotComparable("inputs")
    if first.events != second.events:
        raise NotComparable("events")


def alike(first, second, *, says_only=False, most=USUAL_CALLS, limit=USUAL_PAIRS):
    """Tell whether no run shows a difference between two pairs (part, rule)."""
    return difference(first, second, says_only=says_only, most=most, limit=limit) is None


def parting(book, first, second):
    """Return the least tuple of events that tells two standings of the book apart, None if they are alike."""
    left, right = book.number_at(first), book.number_at(second)
    numbers = book.class_numbers()
    if numbers[left] == numbers[right]:
        return None
    if book.finder.shown_at(left) != book.finder.shown_at(right):
        return ()
    couples = Couples(book.finder, book.finder, False, len(book) * len(book))
    couples.keep((left, right), (None, ()))
    return couples.least_difference([], book.moves())[1]


def classes(book):
    """List the classes of standings that are alike, each as a list of their indexes in the book."""
    groups = {}
    for place, number in enumerate(book.class_numbers()):
        groups.setdefault(number, []).append(place)
    return list(groups.values())
