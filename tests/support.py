"""What several tests need: values of other kinds, changed values, and slow but plain definitions."""

import copy
import unittest

from prefixtable.base.streams import make_stream
from prefixtable.errors import InvalidNumber, NotTaken, PrefixError, TooMany

OTHER_VALUES = [
    None, True, False, -1, 0, 1, 2, 6, 4999, 5000, 5001, 10 ** 59, -10 ** 59, "", "0", "1", "2", "5", "01", "a", " 0",
    "0 ", "0\n", "~" * 300, (), (0,), (0, "0"), (0, 0), ("0", 0), (True, "0"), (0, "", "0"), (0, "0", "1", ""), [],
    [0], [0, "0"], [0, "", "0"], {}, {0: "0"}, {"0": 0, "x": [()]}, ((0, "0"),), ((0, ""),), [[(0, "0")]], ((((),),),),
    PrefixError("told"), InvalidNumber(3), NotTaken((0, "0")), TooMany(60),
]


def changed(value):
    """Return many values that differ from a value in one place: a part replaced, left out, doubled, of another kind."""
    found = list(OTHER_VALUES)
    if isinstance(value, tuple):
        found.append(list(value))
        for at, part in enumerate(value):
            found.append(value[:at] + value[at + 1:])
            found.append(value[:at + 1] + value[at:])
            found.extend([value[:at] + (other,) + value[at + 1:] for other in changed(part)])
    if isinstance(value, str):
        found.extend([value + "x", value + "0", value + "1", value[1:], value[:-1], value + " ", value.encode()[:0]])
    if isinstance(value, int):
        found.extend([value + 1, value - 1, bool(value), str(value)])
    return [other for other in found if not isinstance(other, bytes)]


def plain_word(base, value):
    """Tell by the definition whether a value is a word."""
    return isinstance(value, str) and all(letter in "01234"[:base] for letter in value)


def plain_root(roots, value):
    """Tell by the definition whether a value is a root."""
    return isinstance(value, int) and value is not True and value is not False and 0 <= value < roots


def plain_prefix(base, roots, value):
    """Tell by the definition whether a value is a prefix."""
    return (isinstance(value, tuple) and len(value) == 2 and plain_root(roots, value[0])
            and plain_word(base, value[1]))


def plain_stream(base, roots, value):
    """Tell by the definition whether a value is a stream in normal form."""
    if not isinstance(value, tuple) or len(value) != 3 or not plain_root(roots, value[0]):
        return False
    _, head, period = value
    if not plain_word(base, head) or not plain_word(base, period) or not period:
        return False
    shorter = [size for size in range(1, len(period))
               if len(period) % size == 0 and period[:size] * (len(period) // size) == period]
    return not shorter and head[-1:] != period[-1]


def plain_beginning(stream, count):
    """Return the first digits of a stream, one by one."""
    _, head, period = stream
    return "".join([head[at] if at < len(head) else period[(at - len(head)) % len(period)] for at in range(count)])


def all_words(base, most):
    """Return all words with at most so many digits."""
    found = [""]
    row = [""]
    for _ in range(most):
        row = [word + digit for word in row for digit in "01234"[:base]]
        found = found + row
    return found


def all_streams(base, roots, most_head, most_period):
    """Return all streams in normal form with short heads and periods."""
    told = [(root, head, period) for root in roots for head in all_words(base, most_head)
            for period in all_words(base, most_period)]
    return [stream for stream in told if plain_stream(base, 5000, stream)]


def plain_code(base, roots, value):
    """Tell by the definition whether a value is a code; the words in it must be short."""
    if not isinstance(value, tuple) or not all(plain_prefix(base, roots, prefix) for prefix in value):
        return False
    if any(one >= other for one, other in zip(value, value[1:])):
        return False
    depth = max([len(word) for _, word in value] + [0])
    rows = [word for word in all_words(base, depth) if len(word) == depth]
    return all(sum(1 for prefix in value if prefix[0] == root and row.startswith(prefix[1])) == 1
               for root in range(roots) for row in rows)


def plain_inner(code):
    """Return the inner nodes of a code by the definition."""
    return tuple(sorted({(root, word[:size]) for root, word in code for size in range(len(word))}))


def plain_codes(base, roots, size):
    """Return all codes with so many prefixes, ascending, by expanding in all ways."""
    found = {tuple((root, "") for root in range(roots))}
    for _ in range(size):
        wider = {tuple(sorted(code[:at] + code[at + 1:] + tuple((root, word + digit) for digit in "01234"[:base])))
                 for code in found for at, (root, word) in enumerate(code) if len(code) < size}
        found = found | wider
    return sorted(code for code in found if len(code) == size)


def chance_code(chance, base, roots, steps):
    """Return a code that is reached by so many expansions at places that a generator of chances tells."""
    code = [(root, "") for root in range(roots)]
    for _ in range(steps):
        root, word = code.pop(chance.randrange(len(code)))
        code.extend((root, word + digit) for digit in "01234"[:base])
    return tuple(sorted(code))


def chance_rows(chance, base, left_roots, right_roots, size):
    """Return rows of some table, in any order, about so many; the difference of the roots must fit the base."""
    most = max(left_roots, right_roots, size)
    while (most - left_roots) % (base - 1) or (most - right_roots) % (base - 1):
        most += 1
    left = list(chance_code(chance, base, left_roots, (most - left_roots) // (base - 1)))
    right = list(chance_code(chance, base, right_roots, (most - right_roots) // (base - 1)))
    chance.shuffle(left)
    chance.shuffle(right)
    return tuple(zip(left, right))


def chance_family(chance, many):
    """Return so many triples of a base, numbers of left and right roots with which tables exist."""
    found = []
    while len(found) < many:
        base, left, right = chance.randrange(2, 6), chance.randrange(1, 5), chance.randrange(1, 5)
        if (left - right) % (base - 1) == 0:
            found.append((base, left, right))
    return found


def plain_image(rows, stream):
    """Return the image of a stream under rows by the definition."""
    root, head, period = stream
    for (left_root, left), (right_root, right) in rows:
        told = plain_beginning(stream, len(left))
        if left_root == root and told == left:
            rest = head + period * (len(left) + 1)
            return make_stream(5, right_root, right + rest[len(left):], period)
    raise AssertionError("no row begins the stream")


def plain_least(base, rows):
    """Return the least rows by contracting one family after another, as long as there is one."""
    rows = dict(rows)
    again = True
    while again:
        again = False
        for (root, word), (other_root, other_word) in list(rows.items()):
            upper, other = (root, word[:-1]), (other_root, other_word[:-1])
            family = [((root, word[:-1] + digit), (other_root, other_word[:-1] + digit)) for digit in "01234"[:base]]
            if word and other_word and all(rows.get(left) == right for left, right in family):
                for left, _ in family:
                    del rows[left]
                rows[upper] = other
                again = True
                break
    return tuple(sorted(rows.items()))


def chance_streams(chance, base, roots, many):
    """Return so many streams with short heads and periods."""
    def word(size):
        return "".join(chance.choice("01234"[:base]) for _ in range(size))
    return [make_stream(base, chance.randrange(roots), word(chance.randrange(8)), word(chance.randrange(1, 6)))
            for _ in range(many)]


KEEPS_NOTHING = object()


def flat(value):
    """Return all values inside of a value."""
    if isinstance(value, dict):
        return flat(list(value) + list(value.values()))
    if isinstance(value, (tuple, list)):
        return [part for item in value for part in flat(item)]
    return [value]


class Case(unittest.TestCase):
    """A test case that can ask for an error with its value."""

    def check_error(self, error, value, call, *parts, **named):
        """Check that a call raises just this error, with this value where it keeps one, and changes no argument."""
        before = copy.deepcopy([part for part in parts if isinstance(part, (tuple, list, dict))])
        with self.assertRaises(error) as held:
            call(*parts, **named)
        self.assertIs(held.exception.__class__, error)
        if value is not KEEPS_NOTHING:
            told = list(vars(held.exception).values())
            self.assertEqual(len(told), 1)
            self.assertEqual(told[0], value)
            self.assertIs(told[0].__class__, value.__class__)
        if not any(isinstance(part, Exception) for part in flat(before)):
            self.assertEqual(before, [part for part in parts if isinstance(part, (tuple, list, dict))])
