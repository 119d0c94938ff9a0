"""Recodings: tables that lead from one square table to another one, step by step along all orbits."""

from prefixtable.base.words import DIGITS
from prefixtable.errors import InvalidOperation
from prefixtable.graphs.closed import graph_of, ways_and_circles
from prefixtable.graphs.drawing import Drawing
from prefixtable.graphs.matching import matching_of
from prefixtable.orders.orders import MAX_SMALL
from prefixtable.recodings.reduced import is_leading, reduced_form
from prefixtable.tables.table import Table, require_rows, require_square


def require_pair(first, second):
    """Raise the errors of two square tables of one base."""
    require_square(first)
    require_square(second)
    if first.base != second.base:
        raise InvalidOperation("the tables have different bases")


def is_recoding(first, second, value):
    """Return whether the value is a recoding from the first table to the second one."""
    require_pair(first, second)
    return is_leading(first, second, value)


def recoding(first, second):
    """Return any recoding from the first small table to the second one, or None if there is none."""
    require_pair(first, second)
    require_rows(MAX_SMALL, first)
    require_rows(MAX_SMALL, second)
    change, one = reduced_form(first)
    back, other = reduced_form(second)
    told = matching_of(Drawing(graph_of(one)), Drawing(graph_of(other)))
    return None if told is None else ~back * matched(one, other, told) * change


def matched(first, second, told):
    """Return the recoding between two reduced tables that a matching of their closed graphs tells.

    The digits behind a root on an edge stand at the same place of the partner of the edge, but so many steps earlier
    as the shift of the node tells from which the edge comes. This may be on other edges.
    """
    pairs, shifts = told
    partners = {node: (partner, shift) for (node, partner), shift in zip(pairs, shifts)}
    ways, circles = ways_and_circles(first)
    goal_ways, goal_circles = ways_and_circles(second)
    leaving = {(source, door): (target, entry, roots) for source, door, target, entry, roots in goal_ways}
    coming = {(target, entry): (source, door) for source, door, target, entry, _ in goal_ways}
    rows = []
    for source, door, _, _, roots in ways:
        partner, shift = partners[source]
        for place, root in enumerate(roots):
            rows.extend(rows_of_root(first.base, leaving, coming, root, ((partner, door), place - shift)))
    for circle, goal in zip(sorted(circles, key=len), sorted(goal_circles, key=len)):
        rows.extend([((root, ""), (other, "")) for root, other in zip(circle, goal)])
    return Table.of(first.base, tuple(rows))


def rows_of_root(base, leaving, coming, root, start):
    """Return the rows of a root whose streams go to a pair (exit, number of the root behind it).

    The dicts are those of the other graph, from exits to (target, entry, roots) and from entries to exits. If the
    number is none of the edge, the steps go on to the edges behind it, or back to those before it.
    """
    found = []
    waiting = [(start, "", "")]
    while waiting:
        (origin, place), left, right = waiting.pop()
        target, entry, roots = leaving[origin]
        if place < 0:
            waiting.extend(ways_back(base, leaving, coming, ((origin, place), left, right)))
        elif place < len(roots):
            found.append(((root, left), (roots[place], right)))
        elif target[0] == "merge":
            waiting.append((((target, 0), place - len(roots)), left, DIGITS[entry] + right))
        else:
            # Only splits lead to splits in a reduced graph, so no digit is known yet.
            waiting.extend([(((target, digit), place - len(roots)), left + DIGITS[digit], right)
                            for digit in range(base)])
    return found


def ways_back(base, leaving, coming, way):
    """Return what is waiting on the edges that lead to the edge of a way with a number below 0."""
    ((node, door), place), left, right = way
    if node[0] == "split":
        origin = coming[node, 0]
        return [((origin, place + len(leaving[origin][2])), left, DIGITS[door] + right)]
    # Only merges follow merges in a reduced graph, so no digit is known yet.
    origins = [coming[node, digit] for digit in range(base)]
    return [((origin, place + len(leaving[origin][2])), left + DIGITS[digit], right)
            for digit, origin in enumerate(origins)]
