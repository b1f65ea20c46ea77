"""Bounds that callers pass."""

from calledanew.errors import InvalidBound
from calledanew.values import is_integer

# The bound of calls that is left out, and the greatest one.
USUAL_CALLS = 50
MOST_CALLS = 500


def check_bound(value, greatest):
    """Refuse a value that is no integer from 1 to the greatest."""
    if not is_integer(value) or not 1 <= value <= greatest:
        raise InvalidBound(value)
