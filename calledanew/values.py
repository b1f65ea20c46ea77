"""Tests of plain values that callers pass."""


def is_integer(value):
    """Tell whether the value is an integer, which a flag is not."""
    return isinstance(value, int) and not isinstance(value, bool)


def is_name(value):
    """Tell whether the value is a text of 1 to 8 letters from a to z."""
    if not isinstance(value, str) or not 1 <= len(value) <= 8:
        return False
    return all(["a" <= letter <= "z" for letter in value])


def are_names(value, fewest, most):
    """Tell whether the value is a tuple of `fewest` to `most` different names."""
    if not isinstance(value, tuple) or not fewest <= len(value) <= most:
        return False
    return all([is_name(item) for item in value]) and len(set(value)) == len(value)


def are_words(value, words, fewest, most):
    """Tell whether the value is a tuple of `fewest` to `most` items that are all among the words."""
    if not isinstance(value, tuple) or not fewest <= len(value) <= most:
        return False
    return all([item in words for item in value])


def is_path(value):
    """Tell whether the value is a tuple of integers.

    A flag equals an integer, so a lookup alone would take it for one.
    """
    return isinstance(value, tuple) and all([is_integer(item) for item in value])
