"""Lists of effects, handlers and kept words: what they miss, and the least ones that are good enough."""

from calledanew.books import Book
from calledanew.bounds import MOST_STANDINGS, USUAL_CALLS, USUAL_STANDINGS, check_bounds
from calledanew.errors import InvalidPath, LimitExceeded
from calledanew.forms import LIST_KINDS, LIST_PLACES, MOST_LIST
from calledanew.verdicts import check_kinds

# The greatest number of slots in a full list for which the least lists are sought.
MOST_FULL = 5


def list_row(part, path):
    """Return the list row at the path."""
    row = part.row_at(path)
    if row[0] not in LIST_KINDS:
        raise InvalidPath(path)
    return row


def list_at(part, path):
    """Return the list of the list row at the path, None if it is None."""
    row = list_row(part, path)
    return row[LIST_PLACES[row[0]]]


def full_list(part, path):
    """Return the list with which the row at the path would miss nothing, ascending."""
    row = list_row(part, path)
    return (row[2],) if row[0] == "kept" else part.held(path + (0,))


def missing_slots(part, path):
    """Return the slots of the full list that the list of the row lacks, ascending."""
    listed = list_at(part, path)
    return () if listed is None else slots_without(full_list(part, path), listed)


def surplus_slots(part, path):
    """Return the slots of the row's list that its full list lacks, ascending."""
    listed = list_at(part, path)
    return () if listed is None else slots_without(listed, full_list(part, path))


def slots_without(slots, others):
    """Return those of the slots that are not among the others, ascending."""
    return tuple(sorted([slot for slot in slots if slot not in others]))


def is_complete(part):
    """Tell whether no slot is missing at any list row."""
    paths = [path for path in part.hooks() if part.row_at(path)[0] in LIST_KINDS]
    return not any([len(missing_slots(part, path)) > 0 for path in paths])


def with_list(part, path, slots):
    """Return a new part in which the row at the path has this list."""
    row = list_row(part, path)
    place = LIST_PLACES[row[0]]
    return part.with_row(path, row[:place] + (slots,) + row[place + 1:])


def least_lists(part, rule, path, kinds, *, most=USUAL_CALLS, limit=USUAL_STANDINGS):
    """List the least lists of the row at the path that leave it without faults of these kinds."""
    check_bounds(most, limit, MOST_STANDINGS)
    full = full_list(part, path)
    check_kinds(kinds)
    if len(full) > MOST_FULL:
        raise LimitExceeded(MOST_FULL)
    good = []
    for slots in lists_within(full):
        book = Book(with_list(part, path, slots), rule, most=most, limit=limit)
        if not any([fault[0] in kinds and fault[1] == path for fault in book.faults()]):
            good.append(slots)
    return [slots for slots in good if not any([is_part_of(other, slots) for other in good])]


def lists_within(slots):
    """List the tuples of at most four of the slots, those with fewer slots first."""
    return [chosen for many in range(MOST_LIST + 1) for chosen in choices(slots, many)]


def choices(pool, many):
    """List the tuples of so many of the items, each in their order, compared by the places of the items."""
    if many == 0:
        return [()]
    return [(item,) + rest for at, item in enumerate(pool) for rest in choices(pool[at + 1:], many - 1)]


def is_part_of(slots, others):
    """Tell whether all of the slots, but not all of the others, are in both."""
    return len(slots) < len(others) and all([slot in others for slot in slots])
