"""Small tables of many kinds, and slow but plain definitions of what is asked of them."""

import random

from prefixtable.base.codes import is_code
from prefixtable.tables.table import Table
from support import chance_rows, plain_prefix, plain_word
from tables import FLIP, GATHER, LAST, SPLIT, F, G


def counter(base, digits, more=()):
    """Return the table that counts words of so many digits up by one; more rows tell what becomes of the last word."""
    last = str(base - 1)
    rows = [((0, last * at + str(digit)), (0, "0" * at + str(digit + 1)))
            for at in range(digits) for digit in range(base - 1)]
    more = more or ((("", "")),)
    return Table(base, *rows, *[((0, last * digits + left), (0, "0" * digits + right)) for left, right in more])


# Each prefix of eight digits comes back after 256 steps; each stream waits long in the other ones.
LONG = counter(2, 8)
LONG_GROWTH = counter(2, 6, (("00", "0"), ("01", "10"), ("1", "11")))
LONG_THREE = counter(3, 4)
TWO_ROOTS = Table(2, ((0, ""), (1, "0")), ((1, "0"), (1, "1")), ((1, "1"), (0, "")))
ROOT_GROWTH = Table(2, ((0, ""), (1, "01")), ((1, "0"), (0, "")), ((1, "10"), (1, "00")), ((1, "11"), (1, "1")))
WORD_GROWTH = Table(3, ((0, "0"), (0, "012")), ((0, "1"), (0, "00")), ((0, "20"), (0, "010")), ((0, "21"), (0, "011")),
                    ((0, "220"), (0, "02")), ((0, "221"), (0, "1")), ((0, "222"), (0, "2")))
FIVE = Table(5, ((0, "0"), (0, "1")), ((0, "1"), (0, "2")), ((0, "2"), (0, "0")), ((0, "3"), (0, "4")),
             ((0, "4"), (0, "3")))
# Small, but not square; square, but not small.
NOT_SQUARE = [SPLIT, ~SPLIT, GATHER]
TEN = Table(2, *[((0, "0" * at + "1"), (0, "1" * at + "0")) for at in range(9)], ((0, "0" * 9), (0, "1" * 9)))
NOT_SMALL = [TEN, Table.identity(3, roots=10), TEN ** 2]

KNOWN_TABLES = [F, G, ~G, FLIP, LAST, LONG, LONG_GROWTH, ~LONG_GROWTH, LONG_THREE, TWO_ROOTS, ROOT_GROWTH, WORD_GROWTH,
                ~WORD_GROWTH, FIVE, Table.identity(2), Table.identity(4, roots=3), Table.identity(5, roots=9)]


def small_tables(seed, many):
    """Return the known tables, and so many more small tables of all bases with one to three roots."""
    chance = random.Random(seed)
    found = list(KNOWN_TABLES)
    while len(found) < many + len(KNOWN_TABLES):
        base, roots = chance.randrange(2, 6), chance.randrange(1, 4)
        table = Table(base, *chance_rows(chance, base, roots, roots, chance.randrange(1, 10)))
        if len(table) <= 9:
            found.append(table)
    return found


def plain_taken(table, prefix):
    """Return where a table takes a prefix as a whole by the definition, or None."""
    for (root, word), (other_root, other) in table.rows:
        if root == prefix[0] and prefix[1].startswith(word):
            return other_root, other + prefix[1][len(word):]
    return None


def plain_permuted(table, value):
    """Tell by the definition whether a value is a permuted code."""
    if not is_code(table.base, table.left_roots, value):
        return False
    return all(plain_taken(table, prefix) in value for prefix in value)


def plain_growth(table, value):
    """Tell by the definition whether a value is a growth."""
    if not isinstance(value, tuple) or len(value) != 3:
        return False
    prefix, power, word = value
    if not plain_prefix(table.base, table.left_roots, prefix) or not plain_word(table.base, word) or not word:
        return False
    if not isinstance(power, int) or isinstance(power, bool) or not 1 <= power <= 256:
        return False
    at = prefix
    for _ in range(power):
        at = at and plain_taken(table, at)
    return at == (prefix[0], prefix[1] + word)


def plain_cycles(table, code):
    """Return the cycles of a permuted code by the definition."""
    cycles = []
    for prefix in sorted(code):
        if not any(prefix in cycle for cycle in cycles):
            cycle = [prefix]
            while plain_taken(table, cycle[-1]) != prefix:
                cycle.append(plain_taken(table, cycle[-1]))
            cycles.append(tuple(cycle))
    return cycles


def expanded_cycle(table, code, cycle):
    """Return the permuted code in which all prefixes of a cycle are expanded."""
    parts = [(root, word + digit) for root, word in cycle for digit in "01234"[:table.base]]
    return tuple(sorted([prefix for prefix in code if prefix not in cycle] + parts))
