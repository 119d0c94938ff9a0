"""Codes that a table permutes: they tell that some power changes nothing, and which one."""

from prefixtable.base.codes import has_code_form
from prefixtable.errors import InvalidCode
from prefixtable.orders.settled import is_whole, settled_steps
from prefixtable.tables.rows import row_above
from prefixtable.tables.table import require_rows, require_square

MAX_SMALL = 9


def require_small(table):
    """Raise the errors of a table that must be small."""
    require_square(table)
    require_rows(MAX_SMALL, table)


def is_permuted_code(table, value):
    """Return whether the value is a permuted code of the table."""
    require_small(table)
    return is_permuted(table, value)


def is_permuted(table, value):
    """Return the same as is_permuted_code for a square table of any size."""
    if not has_code_form(table.base, table.left_roots, value):
        return False
    if not all([row_above(table.rows, prefix) is not None for prefix in value]):
        return False
    return tuple(sorted([table[prefix] for prefix in value])) == value


def least_permuted_code(table):
    """Return the permuted code that all other ones refine, or None if there is none."""
    require_small(table)
    steps = settled_steps(table)
    return tuple(steps) if all([is_whole(step) for step in steps.values()]) else None


def cycles_of(table, code):
    """Yield the cycles of a permuted code as tuples of prefixes, each from its smallest one on, ordered by these."""
    require_square(table)
    if not is_permuted(table, code):
        raise InvalidCode("not a permuted code of the table")
    require_rows(MAX_SMALL, table)
    done = {}
    for first in code:
        if first not in done:
            cycle = cycle_from(table, first)
            for prefix in cycle:
                done[prefix] = True
            yield cycle


def cycle_from(table, first):
    """Return the cycle of a prefix of a permuted code."""
    found = [first]
    at = table[first]
    while at != first:
        found.append(at)
        at = table[at]
    return tuple(found)
