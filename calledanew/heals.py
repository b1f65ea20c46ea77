"""Changes of lists that heal a part, and rules under which it needs no healing."""

from calledanew.books import Book
from calledanew.bounds import MOST_STANDINGS, USUAL_CALLS, USUAL_STANDINGS, check_bounds
from calledanew.errors import InvalidChange
from calledanew.forms import LIST_KINDS, MOST_LIST
from calledanew.lists import choices, with_list
from calledanew.rules import all_rules
from calledanew.standings import is_path_of
from calledanew.values import are_names
from calledanew.verdicts import check_kinds

MOST_CANDIDATES = 8
MOST_CHANGES = 3


def is_change(part, value):
    """Tell whether the value is a change of the part."""
    if not isinstance(value, tuple):
        return False
    if len(value) == 3 and value[0] == "list":
        return is_path_of(part, value[1], LIST_KINDS) and are_names(value[2], 0, MOST_LIST)
    if len(value) == 2 and value[0] == "none":
        return is_path_of(part, value[1], ("effect", "handler"))
    return False


def check_changes(part, changes, many):
    """Refuse the first item that is no change of the part, that stands there twice, or that is one too many."""
    for index, change in enumerate(changes):
        if index >= many or not is_change(part, change) or change in changes[:index]:
            raise InvalidChange(index)


def with_changes(part, changes):
    """Return the part with the changes made, one after the other."""
    check_changes(part, changes, len(changes))
    for change in changes:
        part = with_list(part, change[1], change[2] if change[0] == "list" else None)
    return part


def heals(part, rule, kind, candidates, *, most=USUAL_CALLS, limit=USUAL_STANDINGS):
    """List the sets of the fewest candidates that heal the kind of fault."""
    check_bounds(most, limit, MOST_STANDINGS)
    check_kinds([kind])
    check_changes(part, candidates, MOST_CANDIDATES)
    kinds = Book(part, rule, most=most, limit=limit).verdict().kinds()
    if kind not in kinds:
        return [()]
    others = [other for other in kinds if other != kind]
    for many in range(1, MOST_CHANGES + 1):
        found = []
        for changes in choices(candidates, many):
            book = Book(with_changes(part, changes), rule, most=most, limit=limit)
            if all([left in others for left in book.verdict().kinds()]):
                found.append(changes)
        if len(found) > 0:
            return found
    return []


def rules_free(part, kinds, *, most=USUAL_CALLS, limit=USUAL_STANDINGS):
    """List the rules under which the book of the part has no fault of these kinds."""
    check_bounds(most, limit, MOST_STANDINGS)
    check_kinds(kinds)
    books = [Book(part, rule, most=most, limit=limit) for rule in all_rules()]
    return [book.rule for book in books if all([book.is_free(kind) for kind in kinds])]
