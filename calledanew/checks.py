"""The checks that decide whether four components make a part."""

from calledanew.errors import InvalidPart
from calledanew.forms import depth_inside, inner_rows, may_stand, row_fits, zone_inside
from calledanew.places import ALL_ROWS, IFS, IFS_AND_LATER, functions_within, rows_within
from calledanew.values import are_names

MOST_CALL_ROWS = 16
MOST_FUNCTION_ROWS = 8


def check_part(words, inputs, events, rows):
    """Raise InvalidPart for the first thing that is wrong with the components."""
    check_names(words, inputs, events)
    if not isinstance(rows, tuple):
        raise InvalidPart("rows", ())
    check_rows(rows, (), "call", 1, words, events)
    check_uses(rows, inputs)
    check_counts(rows)


def check_names(words, inputs, events):
    """Refuse words, inputs or events that are no tuple of the right names."""
    if not are_names(words, 2, 4):
        raise InvalidPart("words", ())
    if not are_names(inputs, 0, 2):
        raise InvalidPart("inputs", ())
    if not are_names(events, 0, 3):
        raise InvalidPart("events", ())


def check_rows(rows, path, zone, depth, words, events):
    """Refuse the first row without a right form or in a wrong place.

    A row is judged before the rows in it. This also bounds how deep the
    checks go, whatever is nested in the rows.
    """
    for place, row in enumerate(rows):
        at = path + (place,)
        if not row_fits(row, words, events) or not may_stand(row[0], zone, depth):
            raise InvalidPart("rows", at)
        for number, inner in enumerate(inner_rows(row)):
            inner_zone = zone_inside(row[0], number, zone)
            inner_depth = depth_inside(row[0], depth)
            check_rows(inner, at + (number,), inner_zone, inner_depth, words, events)


def check_uses(rows, inputs):
    """Refuse the first row that names a cell, a box or an input wrongly."""
    of_call = {path: row for path, row in rows_within(rows, (), IFS)}
    makers = first_makers(of_call)
    for path, row in rows_within(rows, (), ALL_ROWS):
        if path in of_call:
            wrong = is_made_twice(path, row, makers) or covers_input(row, inputs)
        else:
            wrong = lacks_maker(row, makers)
        if wrong:
            raise InvalidPart("names", path)


def first_makers(of_call):
    """Return for each ("cell", slot) and ("box", box) the path of the first such row."""
    makers = {}
    for path, row in of_call.items():
        if row[0] in ("cell", "box"):
            makers.setdefault(row[:2], path)
    return makers


def is_made_twice(path, row, makers):
    """Tell whether the row is a cell or box row behind another one of the same name."""
    return row[0] in ("cell", "box") and makers[row[:2]] != path


def covers_input(row, inputs):
    """Tell whether the call row would change the slot of an input."""
    return row[0] in ("cell", "kept", "put", "map") and row[1] in inputs


def lacks_maker(row, makers):
    """Tell whether the function row names a cell or a box that no row makes."""
    if row[0] in ("set", "turn"):
        return ("cell", row[1]) not in makers
    if row[0] in ("write", "fetch"):
        return ("box", row[1]) not in makers
    return False


def check_counts(rows):
    """Refuse too many call rows, then the first function with too many rows."""
    if len(rows_within(rows, (), IFS)) > MOST_CALL_ROWS:
        raise InvalidPart("many", ())
    for path, inner in functions_within(rows, ()):
        if len(rows_within(inner, (), IFS_AND_LATER)) > MOST_FUNCTION_ROWS:
            raise InvalidPart("many", path)
