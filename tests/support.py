"""What several tests need: values of other kinds, changed values, and slow but plain definitions."""

import copy
import unittest

from prefixtable.errors import InvalidNumber, NotTaken, PrefixError, TooMany

OTHER_VALUES = [
    None, True, False, -1, 0, 1, 2, 6, 4999, 5000, 5001, 10 ** 59, -10 ** 59, "", "0", "1", "2", "5", "01", "a", " 0",
    "0 ", "0\n", "~" * 300, (), (0,), (0, "0"), (0, 0), ("0", 0), (True, "0"), (0, "", "0"), (0, "0", "1", ""), [],
    [0], [0, "0"], [0, "", "0"], {}, {0: "0"}, {"0": 0, "x": [()]}, ((0, "0"),), ((0, ""),), [[(0, "0")]], ((((),),),),
    PrefixError("told"), InvalidNumber(3), NotTaken((0, "0")), TooMany(60),
]


def changed(value):
    """Return many values that differ from a value in one place: a part replaced, left out, doubled, of another kind."""
    found = list(OTHER_VALUES)
    if isinstance(value, tuple):
        found.append(list(value))
        for at, part in enumerate(value):
            found.append(value[:at] + value[at + 1:])
            found.append(value[:at + 1] + value[at:])
            found.extend([value[:at] + (other,) + value[at + 1:] for other in changed(part)])
    if isinstance(value, str):
        found.extend([value + "x", value + "0", value + "1", value[1:], value[:-1], value + " ", value.encode()[:0]])
    if isinstance(value, int):
        found.extend([value + 1, value - 1, bool(value), str(value)])
    return [other for other in found if not isinstance(other, bytes)]


def plain_word(base, value):
    """Tell by the definition whether a value is a word."""
    return isinstance(value, str) and all(letter in "01234"[:base] for letter in value)


def plain_root(roots, value):
    """Tell by the definition whether a value is a root."""
    return isinstance(value, int) and value is not True and value is not False and 0 <= value < roots


def plain_prefix(base, roots, value):
    """Tell by the definition whether a value is a prefix."""
    return (isinstance(value, tuple) and len(value) == 2 and plain_root(roots, value[0])
            and plain_word(base, value[1]))


def plain_stream(base, roots, value):
    """Tell by the definition whether a value is a stream in normal form."""
    if not isinstance(value, tuple) or len(value) != 3 or not plain_root(roots, value[0]):
        return False
    _, head, period = value
    if not plain_word(base, head) or not plain_word(base, period) or not period:
        return False
    shorter = [size for size in range(1, len(period))
               if len(period) % size == 0 and period[:size] * (len(period) // size) == period]
    return not shorter and head[-1:] != period[-1]


def plain_beginning(stream, count):
    """Return the first digits of a stream, one by one."""
    _, head, period = stream
    return "".join([head[at] if at < len(head) else period[(at - len(head)) % len(period)] for at in range(count)])


def all_words(base, most):
    """Return all words with at most so many digits."""
    found = [""]
    row = [""]
    for _ in range(most):
        row = [word + digit for word in row for digit in "01234"[:base]]
        found = found + row
    return found


def all_streams(base, roots, most_head, most_period):
    """Return all streams in normal form with short heads and periods."""
    told = [(root, head, period) for root in roots for head in all_words(base, most_head)
            for period in all_words(base, most_period)]
    return [stream for stream in told if plain_stream(base, 5000, stream)]


class Case(unittest.TestCase):
    """A test case that can ask for an error with its value."""

    def check_error(self, error, value, call, *parts, **named):
        """Check that a call raises just this error, with this value where it keeps one, and changes no argument."""
        before = copy.deepcopy([part for part in parts if isinstance(part, (tuple, list, dict))])
        with self.assertRaises(error) as held:
            call(*parts, **named)
        self.assertIs(held.exception.__class__, error)
        if value is not KEEPS_NOTHING:
            told = list(vars(held.exception).values())
            self.assertEqual(len(told), 1)
            self.assertEqual(told[0], value)
            self.assertIs(told[0].__class__, value.__class__)
        if not any(isinstance(part, Exception) for part in flat(before)):
            self.assertEqual(before, [part for part in parts if isinstance(part, (tuple, list, dict))])


KEEPS_NOTHING = object()


def flat(value):
    """Return all values inside of a value."""
    if isinstance(value, dict):
        return flat(list(value) + list(value.values()))
    if isinstance(value, (tuple, list)):
        return [part for item in value for part in flat(item)]
    return [value]
