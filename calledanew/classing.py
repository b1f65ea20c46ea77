"""Sorting the standings of a book into classes of those that are alike."""


def numbers_of_classes(finder, events):
    """Return for each standing the number of its class; the classes are numbered by their first standings.

    Standings that show the same words begin in one class. A class is split
    as long as an event tells two of its standings apart.
    """
    numbers = ()
    finer = numbered([finder.shown_at(place) for place in range(len(finder.found))])
    while finer != numbers:
        numbers = finer
        finer = numbered([(number, marks(finder, events, place, numbers)) for place, number in enumerate(numbers)])
    return numbers


def marks(finder, events, place, numbers):
    """Return what each event tells of the standing: the words said and the class behind it, None if it is refused."""
    answers = [finder.answer((place, event)) for event in events]
    return tuple([None if answer is None else (numbers[answer[0]], answer[1]) for answer in answers])


def numbered(values):
    """Return a number for each value, the same one for equal values, counted up as new values come."""
    known = {}
    for value in values:
        known.setdefault(value, len(known))
    return tuple([known[value] for value in values])
