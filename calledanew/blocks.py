"""Reading the lines of a part, with the blocks that they begin and end."""

from calledanew.forms import DIVIDERS, FORMS, MARKS
from calledanew.values import is_name

# The words with which the first lines begin.
HEADS = ("words", "inputs", "events")


class Block:
    """Rows that are being read: those of a row with its first items, or those of the part itself."""

    def __init__(self, items):
        self.items_ahead = items
        # The rows of each tuple of rows that has begun.
        self.tuples = [[]]

    def take(self, row):
        """Put the row behind those that were read."""
        self.tuples[-1].append(row)

    def tuples_read(self):
        """Return the tuples of rows."""
        return tuple([tuple(rows) for rows in self.tuples])

    def may_divide(self, line):
        """Tell whether this line may stand here to begin the second tuple of rows."""
        if len(self.items_ahead) == 0 or len(self.tuples) > 1:
            return False
        return DIVIDERS.get(self.items_ahead[0]) == line

    def may_end(self):
        """Tell whether the line end may stand here."""
        return len(self.items_ahead) > 0 and len(self.tuples) == tuples_of(self.items_ahead[0])


class PartReader:
    """Takes the lines of a part one by one."""

    def __init__(self):
        self.heads = []
        # The part itself and the blocks that are not ended, the innermost one last.
        self.blocks = [Block(())]

    def takes(self, line):
        """Take the line if it is allowed, and tell whether it is."""
        tokens = line.split(" ")
        if len(self.heads) < len(HEADS):
            return self.takes_head(tokens)
        if line == "end":
            return self.takes_end()
        if line in ("clean", "else"):
            return self.takes_divider(line)
        return self.takes_row(tokens)

    def takes_head(self, tokens):
        """Take one of the first lines."""
        if tokens[0] != HEADS[len(self.heads)] or names_ahead(tokens) < len(tokens):
            return False
        self.heads.append(tuple(tokens[1:]))
        return True

    def takes_divider(self, line):
        """Begin the second tuple of rows of the innermost block."""
        block = self.blocks[-1]
        if not block.may_divide(line):
            return False
        block.tuples.append([])
        return True

    def takes_end(self):
        """End the innermost block: its row stands in the block around it."""
        if not self.blocks[-1].may_end():
            return False
        block = self.blocks.pop()
        self.blocks[-1].take(block.items_ahead + block.tuples_read())
        return True

    def takes_row(self, tokens):
        """Take the first line of a row, which may begin a block."""
        items = row_items(tokens)
        if items is None:
            return False
        if tuples_of(items[0]) > 0:
            self.blocks.append(Block(items))
        else:
            self.blocks[-1].take(items)
        return True

    def is_whole(self):
        """Tell whether the part may be over here."""
        return len(self.heads) == len(HEADS) and len(self.blocks) == 1

    def rows_read(self):
        """Return the rows of the part."""
        return self.blocks[0].tuples_read()[0]


def tuples_of(kind):
    """Return how many tuples of rows a row of this kind has."""
    return FORMS[kind].count("rows")


def names_ahead(tokens):
    """Return how many tokens are names before the first one that is none."""
    for at, token in enumerate(tokens):
        if not is_name(token):
            return at
    return len(tokens)


def row_items(tokens):
    """Return the items of a row ahead of its tuples of rows, None if no row begins with these tokens."""
    if tokens[0] not in FORMS:
        return None
    items = [tokens[0]]
    rest = tokens[1:]
    for role in FORMS[tokens[0]]:
        if role == "list or none" and len(rest) == 0:
            items.append(None)
        elif role in MARKS:
            if rest[:1] != [MARKS[role]]:
                return None
            many = names_ahead(rest[1:])
            items.append(tuple(rest[1:many + 1]))
            rest = rest[many + 1:]
        elif role != "rows":
            if names_ahead(rest) == 0:
                return None
            items.append(rest[0])
            rest = rest[1:]
    return tuple(items) if len(rest) == 0 else None
