"""Bounds that callers pass."""

from calledanew.errors import InvalidBound
from calledanew.values import is_integer

# The bound of calls that is left out, and the greatest one.
USUAL_CALLS = 50
MOST_CALLS = 500

# The same for the standings of a book.
USUAL_STANDINGS = 2000
MOST_STANDINGS = 10000

# The same for the pairs of standings of a comparison.
USUAL_PAIRS = 5000
MOST_PAIRS = 20000


def check_bound(value, greatest):
    """Refuse a value that is no integer from 1 to the greatest."""
    if not is_integer(value) or not 1 <= value <= greatest:
        raise InvalidBound(value)


def check_bounds(most, limit, greatest):
    """Refuse a wrong bound of calls, then a limit that is no integer from 1 to the greatest."""
    check_bound(most, MOST_CALLS)
    check_bound(limit, greatest)
