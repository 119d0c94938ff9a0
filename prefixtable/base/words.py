"""Bases, words and prefixes: what they are, and the errors for what is none."""

from prefixtable.base.integers import is_integer_within, require_number
from prefixtable.errors import InvalidPrefix

MIN_BASE = 2
MAX_BASE = 5
MAX_ROOTS = 5000
DIGITS = "01234"


def is_base(value):
    """Return whether the value is a base."""
    return is_integer_within(MIN_BASE, MAX_BASE, value)


def require_base(base):
    """Raise InvalidNumber if the base is none."""
    require_number(MIN_BASE, MAX_BASE, base)


def require_roots(roots):
    """Raise InvalidNumber if this is not a number of roots."""
    require_number(1, MAX_ROOTS, roots)


def is_word(base, value):
    """Return whether the value is a word of the base."""
    require_base(base)
    return has_word_form(base, value)


def has_word_form(base, value):
    """Return the same as is_word for a base that is known to be right."""
    return isinstance(value, str) and value.strip(DIGITS[:base]) == ""


def is_prefix(base, roots, value):
    """Return whether the value is a prefix under one of the roots 0 to roots - 1."""
    require_base(base)
    require_roots(roots)
    return has_prefix_form(base, roots, value)


def has_prefix_form(base, roots, value):
    """Return the same as is_prefix for a base and roots that are known to be right."""
    if not isinstance(value, tuple) or len(value) != 2:
        return False
    root, word = value
    return is_integer_within(0, roots - 1, root) and has_word_form(base, word)


def require_prefix(base, roots, prefix):
    """Raise InvalidPrefix if this is not a prefix of the base and the roots."""
    if not has_prefix_form(base, roots, prefix):
        raise InvalidPrefix("not a prefix of this base and these roots")
