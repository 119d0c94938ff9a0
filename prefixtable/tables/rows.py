"""Rows (left, right) of prefixes, in tuples and lists of any length: least rows, products, inverses."""

from prefixtable.base.codes import covers
from prefixtable.base.prefixes import is_above, last_not_behind, longer, lowest, moved, prefix_text
from prefixtable.base.streams import leading_word, with_beginning
from prefixtable.base.words import DIGITS, MAX_ROOTS, has_prefix_form


def is_row(base, value):
    """Return whether the value is a pair of prefixes of the base."""
    if not isinstance(value, tuple) or len(value) != 2:
        return False
    return has_prefix_form(base, MAX_ROOTS, value[0]) and has_prefix_form(base, MAX_ROOTS, value[1])


def are_table_rows(base, rows):
    """Return whether these are rows whose left sides are a code, and whose right sides are one."""
    if len(rows) == 0 or not all([is_row(base, row) for row in rows]):
        return False
    lefts = sorted([left for left, _ in rows])
    rights = sorted([right for _, right in rows])
    return covers(base, lefts[-1][0] + 1, lefts) and covers(base, rights[-1][0] + 1, rights)


def least_rows(base, rows):
    """Return the least rows of the map with these rows, which are ascending."""
    found = []
    for row in rows:
        found.append(row)
        while is_family(base, found[-base:]):
            (root, word), (other_root, other_word) = found[-1]
            for _ in range(base):
                found.pop()
            found.append(((root, word[:-1]), (other_root, other_word[:-1])))
    return tuple(found)


def is_family(base, rows):
    """Return whether these rows are the rows (p + d, q + d) of two prefixes p, q for all digits d."""
    (root, word), (other_root, other_word) = rows[-1]
    last = DIGITS[base - 1]
    # Most rows end here; the rest is looked at for the others only.
    if not word.endswith(last) or not other_word.endswith(last):
        return False
    upper = (root, word[:-1])
    other_upper = (other_root, other_word[:-1])
    return rows == [(longer(upper, digit), longer(other_upper, digit)) for digit in DIGITS[:base]]


def row_above(rows, prefix):
    """Return the row whose left prefix is above a prefix, or None; the rows are ascending."""
    # No right prefix has so great a root, so the bound is behind the row with just this left prefix.
    row = last_not_behind(rows, (prefix, (MAX_ROOTS, "")))
    return row if is_above(row[0], prefix) else None


def row_of_stream(rows, stream):
    """Return the row of a table with whose left prefix a stream begins."""
    # No left prefix has as many digits as there are rows.
    return row_above(rows, (stream[0], leading_word(stream, len(rows))))


def image_of_stream(rows, stream):
    """Return the stream to which a table with these rows takes a stream."""
    left, right = row_of_stream(rows, stream)
    return with_beginning(stream, left, right)


def spread_rows(rows, prefixes):
    """Return the rows of the same map with these left prefixes, ascending, each of which is below one of the rows."""
    found = []
    at = 0
    for prefix in prefixes:
        while not is_above(rows[at][0], prefix):
            at += 1
        found.append((prefix, moved(prefix, rows[at][0], rows[at][1])))
    return found


def lefts_of(rows):
    """Return the left prefixes of rows."""
    return tuple([left for left, _ in rows])


def inverse_rows(rows):
    """Return the rows of the inverse, ascending."""
    return tuple(sorted([(right, left) for left, right in rows]))


def product_rows(base, last, first):
    """Return the least rows of the map that does the rows first, and then the rows last."""
    back = inverse_rows(first)
    code = lowest([row[0] for row in back] + [row[0] for row in last])
    origins = spread_rows(back, code)
    images = spread_rows(last, code)
    return least_rows(base, sorted([(origin[1], image[1]) for origin, image in zip(origins, images)]))


def rows_text(rows):
    """Return the text of rows, like 0:0 > 0:1, 0:1 > 0:0."""
    return ", ".join([f"{prefix_text(left)} > {prefix_text(right)}" for left, right in rows])
