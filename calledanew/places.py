"""Going through rows with their paths."""

from calledanew.forms import FIRST_ROWS, inner_rows

# Which rows are gone into: those of the same call or function, those of a
# function and its later rows, or all.
IFS = ("if",)
IFS_AND_LATER = ("if", "later")
ALL_ROWS = ("if", "effect", "handler", "later")


def rows_within(rows, path, through):
    """List (path, row) in program order, also inside rows of the kinds in `through`.

    `path` is what the paths of these rows have ahead of their place.
    """
    found = []
    for place, row in enumerate(rows):
        at = path + (place,)
        found.append((at, row))
        if row[0] in through:
            for number, inner in enumerate(inner_rows(row)):
                found.extend(rows_within(inner, at + (number,), through))
    return found


def tuples_within(rows, path):
    """List (path, [(path, row), ..]) of this tuple of rows and of each one inside it.

    The path of a tuple of rows is what the paths of its rows have ahead of their place.
    """
    placed = [(path + (place,), row) for place, row in enumerate(rows)]
    found = [(path, placed)]
    for at, row in placed:
        for number, inner in enumerate(inner_rows(row)):
            found.extend(tuples_within(inner, at + (number,)))
    return found


def functions_within(rows, path):
    """List (path, rows) of the functions in these rows, in program order."""
    found = []
    for place, row in enumerate(rows):
        for number, inner in enumerate(inner_rows(row)):
            at = path + (place, number)
            if row[0] != "if":
                found.append((at, inner))
            found.extend(functions_within(inner, at))
    return found


def rows_with(rows, path, row):
    """Return the rows with `row` in the place of the row at the path."""
    place = path[0]
    fresh = row if len(path) == 1 else row_with(rows[place], path[1:], row)
    return rows[:place] + (fresh,) + rows[place + 1:]


def row_with(outer, path, row):
    """Return the outer row with `row` in the place of the row at the path inside it."""
    at = FIRST_ROWS[outer[0]] + path[0]
    return outer[:at] + (rows_with(outer[at], path[1:], row),) + outer[at + 1:]
