"""Integers: values of int that are neither True nor False."""

from prefixtable.errors import InvalidNumber


def is_integer(value):
    """Return whether the value is an integer."""
    return isinstance(value, int) and not isinstance(value, bool)


def is_integer_within(low, high, value):
    """Return whether the value is an integer from low to high."""
    return is_integer(value) and low <= value <= high


def require_number(low, high, number):
    """Raise InvalidNumber if the number is not an integer from low to high."""
    if not is_integer_within(low, high, number):
        raise InvalidNumber(number)
