"""Growths: prefixes that a power takes to parts of themselves, so that no power changes nothing."""

from prefixtable.base.integers import is_integer_within
from prefixtable.base.prefixes import longer, moved
from prefixtable.base.words import has_prefix_form, has_word_form
from prefixtable.orders.orders import is_permuted, least_permuted_code, require_small
from prefixtable.orders.settled import growths_of
from prefixtable.tables.rows import row_above

MAX_POWER = 256


def growth(table):
    """Return any growth of the table, or None if there is none."""
    require_small(table)
    found = list(growths_of(table).values())
    return found[0] if found else None


def is_growth(table, value):
    """Return whether the value is a growth of the table."""
    require_small(table)
    if not isinstance(value, tuple) or len(value) != 3:
        return False
    prefix, power, word = value
    if not has_prefix_form(table.base, table.left_roots, prefix) or not is_integer_within(1, MAX_POWER, power):
        return False
    if not has_word_form(table.base, word) or word == "":
        return False
    return after_steps(table.rows, prefix, power) == longer(prefix, word)


def after_steps(rows, prefix, power):
    """Return where so many steps take a prefix, each time as a whole, or None if one of them does not."""
    for _ in range(power):
        row = row_above(rows, prefix)
        if row is None:
            return None
        prefix = moved(prefix, row[0], row[1])
    return prefix


def order_certificate(table):
    """Return ("permuted", code) with any permuted code, or ("grows", growth) with any growth."""
    code = least_permuted_code(table)
    return ("grows", growth(table)) if code is None else ("permuted", code)


def is_order_certificate(table, value):
    """Return whether the value is a permuted code or a growth of the table, with the word for it."""
    require_small(table)
    if not isinstance(value, tuple) or len(value) != 2:
        return False
    kind, thing = value
    if kind == "permuted":
        return is_permuted(table, thing)
    return kind == "grows" and is_growth(table, thing)
