"""Which values are standings and events of a part."""

from calledanew.forms import HOOK_KINDS, MOST_LIST
from calledanew.values import are_words, is_integer, is_path

# The number of items of an entry of each kind, the kind included.
ENTRY_SIZES = {"cell": 2, "box": 2, "kept": 3, "effect": 5, "handler": 4}

MOST_WAITING = 3
MOST_SHOWN = 16


def is_standing(part, value):
    """Tell whether the value is a standing of the part, also one that no history reaches."""
    if not isinstance(value, tuple) or len(value) != 5:
        return False
    words, hooks, entries, waiting, shown = value
    many = len(part.slots())
    if not are_words(words, part.words, many, many) or not are_hooks(part, hooks):
        return False
    rows = [part.row_table[path] for path in hooks]
    kinds = [row[0] for row in rows]
    return (are_entries(part, rows, kinds, entries) and are_waiting(part, kinds, waiting)
            and are_words(shown, part.words, 0, MOST_SHOWN))


def are_hooks(part, value):
    """Tell whether the value is a tuple of different paths of hooks in program order."""
    if not isinstance(value, tuple) or not all([is_path_of(part, path, HOOK_KINDS) for path in value]):
        return False
    return all([first < second for first, second in zip(value, value[1:])])


def is_path_of(part, value, kinds):
    """Tell whether the value is the path of a row of one of these kinds."""
    return is_path(value) and value in part.row_table and part.row_table[value][0] in kinds


def are_entries(part, rows, kinds, value):
    """Tell whether the value is a tuple with an entry for each of the hook rows."""
    if not isinstance(value, tuple) or len(value) != len(rows):
        return False
    return all([is_entry(part, row, kinds, entry) for row, entry in zip(rows, value)])


def is_entry(part, row, kinds, value):
    """Tell whether the value is an entry that the hook row can have taken."""
    if not isinstance(value, tuple) or len(value) != ENTRY_SIZES[row[0]] or value[0] != row[0]:
        return False
    if row[0] in ("effect", "handler"):
        return is_function_entry(part, row, kinds, value)
    if row[0] == "kept" and not are_words(value[2], part.words, 0, MOST_LIST):
        return False
    return value[1] in part.words


def is_function_entry(part, row, kinds, value):
    """Tell the same of a tuple that has the kind and the size of the entry of an effect or handler row."""
    path, list_words = value[1:3]
    if not is_path_of(part, path, (row[0],)):
        return False
    if row[0] == "handler" and part.row_table[path][1] != row[1]:
        return False
    if list_words is not None and not are_words(list_words, part.words, 0, MOST_LIST):
        return False
    return all([is_made(part, path + (number,), kinds, made) for number, made in enumerate(value[3:])])


def is_made(part, path, kinds, value):
    """Tell whether the value can be the function at the path, made in a call with hooks of these kinds."""
    if not isinstance(value, tuple) or len(value) != 2:
        return False
    words, numbers = value
    many = len(part.held_table[path])
    return are_words(words, part.words, many, many) and are_numbers(part.link_table[path], kinds, numbers)


def are_numbers(links, kinds, value):
    """Tell whether the value has for each link None or the number of an entry of its kind."""
    if not isinstance(value, tuple) or len(value) != len(links):
        return False
    return all([number is None or is_number_of(link[0], kinds, number) for link, number in zip(links, value)])


def is_number_of(kind, kinds, value):
    """Tell whether the value is the number of an entry of this kind."""
    return is_integer(value) and 0 <= value < len(kinds) and kinds[value] == kind


def are_waiting(part, kinds, value):
    """Tell whether the value is a tuple of functions that may wait."""
    if not isinstance(value, tuple) or len(value) > MOST_WAITING:
        return False
    return all([is_waiting(part, kinds, item) for item in value])


def is_waiting(part, kinds, value):
    """Tell whether the value is the function of a later row with its path."""
    if not isinstance(value, tuple) or len(value) != 3:
        return False
    path = value[0]
    if not is_path(path) or path not in part.held_table or part.row_table[path[:-1]][0] != "later":
        return False
    return is_made(part, path, kinds, value[1:])


def is_event(part, value):
    """Tell whether the value is an event of the part."""
    if not isinstance(value, tuple):
        return False
    if len(value) == 2:
        return value[0] == "press" and value[1] in part.events
    if len(value) == 3:
        return value[0] == "hand" and value[1] in part.inputs and value[2] in part.words
    return value == ("tick",)


def all_events(part):
    """List the events: the presses, the tick, then each input with each word."""
    presses = [("press", event) for event in part.events]
    hands = [("hand", name, word) for name in part.inputs for word in part.words]
    return presses + [("tick",)] + hands
