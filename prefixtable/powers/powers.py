"""Exponents with which one table is a power of another one, and tables that commute."""

from math import lcm

from prefixtable.base.prefixes import longer, other_digit
from prefixtable.base.streams import normal_stream
from prefixtable.errors import InvalidOperation
from prefixtable.orders.growth import growth
from prefixtable.orders.orbits import exponent_of
from prefixtable.orders.orders import MAX_SMALL, cycles_of, least_permuted_code
from prefixtable.tables.rows import product_rows
from prefixtable.tables.table import Table, require_rows, require_square


def require_equals(first, second):
    """Raise the errors of two square tables with the same base and equally many roots."""
    require_square(first)
    require_square(second)
    if (first.base, first.left_roots) != (second.base, second.left_roots):
        raise InvalidOperation("the tables have not the same base and equally many roots")


def commute(first, second):
    """Return whether it does not matter which of two tables is done first."""
    require_equals(first, second)
    return first * second == second * first


def exponent_between(first, second):
    """Return the exponent with which the second small table is a power of the first one, or None if there is none."""
    require_equals(first, second)
    require_rows(MAX_SMALL, first)
    require_rows(MAX_SMALL, second)
    code = least_permuted_code(first)
    return exponent_by_growth(first, second) if code is None else exponent_by_code(first, second, code)


def exponent_by_code(first, second, code):
    """Return the same as exponent_between for a first table that permutes a code."""
    found = 0
    step = 1
    for cycle in cycles_of(first, code):
        turn = turn_between(second, cycle)
        if turn is None:
            return None
        tries = len(cycle)
        while found % len(cycle) != turn and tries > 0:
            found = found + step
            tries = tries - 1
        if tries == 0:
            return None
        step = lcm(step, len(cycle))
    return found


def turn_between(table, cycle):
    """Return the number of places by which a table turns a cycle of prefixes, or None if it does not turn it."""
    image = table.takes(cycle[0])
    if image not in cycle:
        return None
    turn = cycle.index(image)
    turned = cycle[turn:] + cycle[:turn]
    return turn if [table.takes(prefix) for prefix in cycle] == list(turned) else None


def exponent_by_growth(first, second):
    """Return the same as exponent_between for a first table with a growth."""
    prefix, power, word = growth(first)
    root, start = longer(prefix, other_digit(word))
    # This stream begins with the prefix of the growth and does not return, so one exponent at most fits it.
    stream = normal_stream(root, start, "0")
    found = exponent_of(first, stream, second(stream))
    if found is None:
        return None
    # So many steps of the second table, each of which adds no more digits than its rows have, must add all words.
    longest = max([len(side[1]) for row in second.rows for side in row])
    if abs(found) * len(word) > longest * power:
        return None
    table = first if found >= 0 else ~first
    return found if rows_of_power(table, abs(found)) == second.rows else None


def rows_of_power(table, count):
    """Return the least rows of a power of a table, which may be more than a table has; the exponent is not negative."""
    found = Table.identity(table.base, roots=table.left_roots).rows
    square = table.rows
    while count > 0:
        if count % 2 == 1:
            found = product_rows(table.base, square, found)
        count = count // 2
        if count > 0:
            square = product_rows(table.base, square, square)
    return found
