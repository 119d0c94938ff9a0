"""Kinds of tables: which orders they keep, and which streams they fix or move."""

from prefixtable.base.prefixes import are_apart, behind, is_above, longer, other_digit
from prefixtable.base.streams import comes_before, has_stream_form, normal_stream
from prefixtable.base.words import has_prefix_form
from prefixtable.tables.table import require_table


def first_stream(prefix):
    """Return the first stream under a prefix."""
    return normal_stream(prefix[0], prefix[1], "0")


def are_streams(table, count, value):
    """Return whether the value is a tuple of so many streams that the table takes."""
    if not isinstance(value, tuple) or len(value) != count:
        return False
    return all([has_stream_form(table.base, table.left_roots, stream) for stream in value])


def keeps_order(table):
    """Return whether the table keeps the order."""
    return order_break(table) is None


def order_break(table):
    """Return any order break, or None if there is none."""
    require_table(table)
    for upper, lower in zip(table.rows, table.rows[1:]):
        if upper[1] > lower[1]:
            return first_stream(upper[0]), first_stream(lower[0])
    return None


def is_order_break(table, value):
    """Return whether the value is an order break."""
    require_table(table)
    if not are_streams(table, 2, value):
        return False
    one, other = value
    return comes_before(one, other) and comes_before(table(other), table(one))


def keeps_round(table):
    """Return whether the table keeps the round order."""
    return round_break(table) is None


def round_break(table):
    """Return any round break, or None if there is none."""
    require_table(table)
    rights = [right for _, right in table.rows]
    least = rights.index(min(rights))
    turned = table.rows[least:] + table.rows[:least]
    for upper, lower in zip(turned[1:], turned[2:]):
        if upper[1] > lower[1]:
            return first_stream(turned[0][0]), first_stream(upper[0]), first_stream(lower[0])
    return None


def is_round_break(table, value):
    """Return whether the value is a round break."""
    require_table(table)
    if not are_streams(table, 3, value):
        return False
    one, two, three = value
    return in_round_order(one, two, three) and not in_round_order(table(one), table(two), table(three))


def in_round_order(one, two, three):
    """Return whether three streams are different and in round order."""
    steps = [comes_before(one, two), comes_before(two, three), comes_before(three, one)]
    return steps.count(True) == 2


def fixed_prefixes(table):
    """Return the least ascending tuple of fixed prefixes with all of their streams."""
    require_table(table)
    return tuple([left for left, right in table.rows if left == right])


def lone_fixed_streams(table):
    """Return the tuple of the fixed streams without a fixed prefix, ascending as tuples."""
    require_table(table)
    # In a row with one prefix above the other one, repeating the word between them leads to the same stream.
    growing = [normal_stream(left[0], left[1], behind(left, right)) for left, right in table.rows
               if left != right and is_above(left, right)]
    shrinking = [normal_stream(right[0], right[1], behind(right, left)) for left, right in table.rows
                 if left != right and is_above(right, left)]
    return tuple(sorted(growing + shrinking))


def moved_prefix(table):
    """Return any moved prefix, or None if the table moves no stream."""
    require_table(table)
    for left, right in table.rows:
        if left != right:
            # Behind one digit that leaves the way between the two prefixes, they are apart.
            digit = ""
            if is_above(left, right):
                digit = other_digit(behind(left, right))
            elif is_above(right, left):
                digit = other_digit(behind(right, left))
            return longer(left, digit), longer(right, digit)
    return None


def is_moved_prefix(table, value):
    """Return whether the value is a moved prefix."""
    require_table(table)
    if not isinstance(value, tuple) or len(value) != 2 or not has_prefix_form(table.base, table.left_roots, value[0]):
        return False
    one, other = value
    if not has_prefix_form(table.base, table.right_roots, other):
        return False
    return are_apart(one, other) and table.takes(one) == other
