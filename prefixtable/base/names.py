"""Names: words of small letters."""

LETTERS = "abcdefghijklmnopqrstuvwxyz"
MAX_LETTERS = 8


def has_name_form(value):
    """Return whether the value is a string of one to eight small letters."""
    return isinstance(value, str) and 1 <= len(value) <= MAX_LETTERS and value.strip(LETTERS) == ""
