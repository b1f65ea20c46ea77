"""The forms of rows: what each item of a row is and where the row may stand."""

from calledanew.values import are_names, are_words, is_name

HOOK_KINDS = ("cell", "box", "kept", "effect", "handler")
CALL_KINDS = ("cell", "box", "kept", "effect", "handler", "put", "map", "if", "show")
FUNCTION_KINDS = ("say", "set", "turn", "write", "fetch", "put", "map", "if", "later")

# Put, map and if rows have the same form in calls and in functions.
FORMS = {
    "cell": ("slot", "word"),
    "box": ("box", "word"),
    "kept": ("slot", "from", "table", "list"),
    "effect": ("list or none", "rows", "rows"),
    "handler": ("event", "list or none", "rows"),
    "put": ("slot", "word"),
    "map": ("slot", "from", "table"),
    "if": ("slot", "word", "rows", "rows"),
    "show": ("slot",),
    "say": ("slot",),
    "set": ("cell", "slot"),
    "turn": ("cell", "table"),
    "write": ("box", "slot"),
    "fetch": ("box", "slot"),
    "later": ("rows",),
}

# The index of the first tuple of rows; nothing stands behind these tuples.
FIRST_ROWS = {"if": 3, "effect": 2, "handler": 3, "later": 1}

# The kinds of rows that have a list, and its index in them.
LIST_KINDS = ("kept", "effect", "handler")
LIST_PLACES = {"kept": 4, "effect": 1, "handler": 2}

# In a text: what stands ahead of the names of a table or a list, and the line between two tuples of rows.
MARKS = {"table": "=", "list": ":", "list or none": ":"}
DIVIDERS = {"effect": "clean", "if": "else"}

MOST_LIST = 4
DEEPEST_CALL_IF = 3
DEEPEST_FUNCTION_IF = 2


def item_fits(role, item, words, events):
    """Tell whether the item is what a form calls `role`."""
    if role == "word":
        return item in words
    if role == "event":
        return item in events
    if role == "table":
        return are_words(item, words, len(words), len(words))
    if role == "list":
        return are_names(item, 0, MOST_LIST)
    if role == "list or none":
        return item is None or are_names(item, 0, MOST_LIST)
    if role == "rows":
        return isinstance(item, tuple)
    return is_name(item)


def row_fits(row, words, events):
    """Tell whether the value has the form of a row, whatever its tuples of rows hold."""
    if not isinstance(row, tuple) or len(row) == 0:
        return False
    if not isinstance(row[0], str) or row[0] not in FORMS:
        return False
    form = FORMS[row[0]]
    if len(row) != len(form) + 1:
        return False
    return all([item_fits(role, item, words, events) for role, item in zip(form, row[1:])])


def may_stand(kind, zone, depth):
    """Tell whether a row of this kind may stand at this depth of the zone.

    The zones are "call", "body", "clean" and "later".
    """
    if zone == "call":
        return kind in CALL_KINDS and (kind != "if" or depth <= DEEPEST_CALL_IF)
    if kind == "later":
        return zone == "body" and depth == 1
    return kind in FUNCTION_KINDS and (kind != "if" or depth <= DEEPEST_FUNCTION_IF)


def zone_inside(kind, number, zone):
    """Return the zone of the tuple of rows with this number in a row of this kind."""
    if kind == "if":
        return zone
    if kind == "later":
        return "later"
    return "clean" if number == 1 else "body"


def depth_inside(kind, depth):
    """Return the depth of the rows in a row of this kind."""
    return depth + 1 if kind == "if" else 1


def inner_rows(row):
    """Return the tuples of rows that the row contains, in the order of their numbers."""
    if row[0] not in FIRST_ROWS:
        return ()
    return row[FIRST_ROWS[row[0]]:]


def slots_in(row):
    """List the slots that the row itself names, also more than once."""
    found = []
    for role, item in zip(FORMS[row[0]], row[1:]):
        if role in ("slot", "from", "cell"):
            found.append(item)
        if role in ("list", "list or none") and item is not None:
            found.extend(item)
    return found
