"""Reduced tables, and the recodings that lead to them: expansions and gatherings of roots."""

from prefixtable.base.integers import is_integer_within, require_number
from prefixtable.base.prefixes import children
from prefixtable.base.words import require_base, require_roots
from prefixtable.errors import InvalidNumber, InvalidOperation
from prefixtable.graphs.closed import closed_graph, graph_of, ways_and_circles
from prefixtable.graphs.drawing import Drawing
from prefixtable.orders.orders import require_small
from prefixtable.orders.settled import settled_steps
from prefixtable.tables.rows import inverse_rows, product_rows
from prefixtable.tables.table import Table, require_square, require_table


def root_expansion(base, roots, root):
    """Return the table that makes each digit of a root a root."""
    require_base(base)
    require_roots(roots)
    require_number(0, roots - 1, root)
    # The table has a row for each of its right roots, so too many of them are refused as too many rows.
    code = [(other, "") for other in range(root)] + children(base, (root, ""))
    return to_roots(base, code + [(other, "") for other in range(root + 1, roots)])


def to_roots(base, code):
    """Return the table that takes the prefixes of a code to the roots with their numbers."""
    return Table.of(base, tuple([(prefix, (place, "")) for place, prefix in enumerate(code)]))


def root_gathering(base, roots, chosen):
    """Return the table that puts a tuple of base different roots under one new root."""
    require_base(base)
    require_roots(roots)
    if not are_different_roots(base, roots, chosen):
        raise InvalidNumber(chosen)
    return gathering_of(base, roots, [chosen])


def are_different_roots(base, roots, value):
    """Return whether the value is a tuple of base different roots."""
    if not isinstance(value, tuple) or len(value) != base:
        return False
    if not all([is_integer_within(0, roots - 1, root) for root in value]):
        return False
    return len(set(value)) == base


def gathering_of(base, roots, groups):
    """Return the table that puts each of several groups of base different roots under a new root, behind the others."""
    chosen = {root: True for group in groups for root in group}
    code = [(root, "") for root in range(roots) if root not in chosen]
    first = len(code)
    images = {prefix: (place, "") for place, prefix in enumerate(code)}
    for place, group in enumerate(groups):
        for root, image in zip(group, children(base, (first + place, ""))):
            images[root, ""] = image
    return Table.of(base, tuple(images.items()))


def recoded(table, recoding):
    """Return the square table to which a recoding leads from a square table."""
    require_square(table)
    require_table(recoding)
    if recoding.base != table.base or recoding.left_roots != table.left_roots:
        raise InvalidOperation("the recoding does not begin with the base and the roots of the table")
    # The products on the way may have more rows than a table, so only rows are multiplied.
    rows = product_rows(table.base, product_rows(table.base, recoding.rows, table.rows), inverse_rows(recoding.rows))
    return Table.of(table.base, rows)


def is_leading(first, second, value):
    """Return whether the value is a recoding from a square table to another one of the same base, both of any size."""
    if not isinstance(value, Table) or value.base != first.base:
        return False
    if value.left_roots != first.left_roots or value.right_roots != second.left_roots:
        return False
    base = first.base
    return product_rows(base, value.rows, first.rows) == product_rows(base, second.rows, value.rows)


def is_reduced_table(table):
    """Return whether the closed graph of a drawn table is reduced."""
    return not Drawing(closed_graph(table)).moves()


def is_reduced_form(table, value):
    """Return whether the value is a pair of a recoding and the reduced table to which it leads from the table."""
    require_square(table)
    if not isinstance(value, tuple) or len(value) != 2:
        return False
    recoding, goal = value
    if not isinstance(goal, Table) or not goal.is_square or goal.base != table.base:
        return False
    return is_leading(table, goal, recoding) and not Drawing(graph_of(goal)).moves()


def reduced_form(table):
    """Return any pair of a recoding and the reduced table to which it leads from a small table."""
    require_small(table)
    # Expanding the roots along the edges from merges to splits, as long as there is one, leads to the settled code.
    recoding = to_roots(table.base, list(settled_steps(table)))
    goal = recoded(table, recoding)
    groups = groups_of(goal)
    while groups:
        step = gathering_of(goal.base, goal.left_roots, groups)
        recoding = step * recoding
        goal = recoded(goal, step)
        groups = groups_of(goal)
    return recoding, goal


def groups_of(table):
    """Return groups of roots that can be gathered at once, for all moves "collapse" and "fold" that are possible."""
    ways, circles = ways_and_circles(table)
    fans = {}
    for source, _, target, entry, roots in ways:
        fans.setdefault(source, []).append((target, entry, roots))
    rows = [[roots for _, _, roots in fan] for fan in fans.values() if is_collapsing(table.base, fan)]
    return [group for row in rows + circles_to_fold(table.base, circles) for group in zip(*row)]


def is_collapsing(base, fan):
    """Return whether the pairs (target, entry, roots) of all exits of a node allow a "collapse"."""
    target, _, roots = fan[0]
    # A merge has one exit, and a split one entry, so only the exits of a split can lead to all entries of a merge.
    return [(goal, entry, len(row)) for goal, entry, row in fan] == [(target, at, len(roots)) for at in range(base)]


def circles_to_fold(base, circles):
    """Return lists of base circles with the same length, as many as there are."""
    alike = {}
    found = []
    for circle in circles:
        row = alike.setdefault(len(circle), [])
        row.append(circle)
        if len(row) == base:
            found.append(row)
            alike[len(circle)] = []
    return found
