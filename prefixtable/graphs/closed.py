"""Closed graphs of tables, and what graphs are."""

from prefixtable.base.codes import nodes_inside
from prefixtable.base.integers import is_integer, is_integer_within
from prefixtable.base.prefixes import children
from prefixtable.base.words import MAX_ROOTS, has_prefix_form, is_base
from prefixtable.tables.table import require_rows, require_square

MAX_DRAWN = 60
MAX_COUNT = 5000


def closed_graph(table):
    """Return the closed graph of a drawn table."""
    require_square(table)
    require_rows(MAX_DRAWN, table)
    return graph_of(table)


def graph_of(table):
    """Return the closed graph of a square table of any size."""
    ways, circles = ways_and_circles(table)
    nodes = sorted(set([source for source, _, _, _, _ in ways]))
    edges = [(source, door, target, entry, len(roots)) for source, door, target, entry, roots in ways]
    lengths = sorted([len(circle) for circle in circles])
    loops = [(length, lengths.count(length)) for length in sorted(set(lengths))]
    return table.base, tuple(nodes), tuple(sorted(edges)), tuple(loops)


def ways_and_circles(table):
    """Return a list of what ways_of tells of a square table, and one of the circles of the roots of no edge."""
    splits = {prefix: True for prefix in nodes_inside(table.left_code)}
    images = {left: right for left, right in table.rows}
    ways = ways_of(table.base, splits, nodes_inside(table.right_code), images)
    passed = {root: True for _, _, _, _, roots in ways for root in roots}
    return ways, circles_of_roots(images, [root for root in range(table.left_roots) if root not in passed])


def ways_of(base, splits, merges, images):
    """Return a list of tuples (source, exit, target, entry, roots that are passed) for all edges of a table."""
    found = []
    for prefix in splits:
        for door, start in enumerate(children(base, prefix)):
            end = (("split", start), 0, []) if start in splits else way_from(splits, images, images[start])
            found.append((("split", prefix), door) + end)
    for prefix in merges:
        found.append((("merge", prefix), 0) + way_from(splits, images, prefix))
    return found


def way_from(splits, images, start):
    """Return (target, entry, roots that are passed) for what goes on from a prefix on the right side."""
    at = start
    roots = []
    while at[1] == "":
        roots.append(at[0])
        if at in splits:
            return ("split", at), 0, roots
        at = images[at]
    root, word = at
    return ("merge", (root, word[:-1])), int(word[-1]), roots


def circles_of_roots(images, roots):
    """Return the circles of roots each of which leads to another one of them as a whole, as lists."""
    found = []
    done = {}
    for first in roots:
        circle = []
        at = first
        while at not in done:
            done[at] = True
            circle.append(at)
            at = images[at, ""][0]
        if circle:
            found.append(circle)
    return found


def is_graph(value):
    """Return whether the value is a graph."""
    if not isinstance(value, tuple) or len(value) != 4 or not is_base(value[0]):
        return False
    base, nodes, edges, loops = value
    return are_nodes(base, nodes) and are_edges(base, nodes, edges) and are_loops(loops)


def has_node_form(base, value):
    """Return whether the value is a pair of a kind of node and a prefix of the base."""
    if not isinstance(value, tuple) or len(value) != 2 or value[0] not in ("merge", "split"):
        return False
    return has_prefix_form(base, MAX_ROOTS, value[1])


def is_ascending(row):
    """Return whether the items of a row are strictly ascending."""
    return all([one < other for one, other in zip(row, row[1:])])


def are_nodes(base, value):
    """Return whether the value can be the nodes of a graph."""
    if not isinstance(value, tuple) or not all([has_node_form(base, node) for node in value]):
        return False
    return is_ascending(value)


def exits_of(base, node):
    """Return the number of exits of a node."""
    return base if node[0] == "split" else 1


def entries_of(base, node):
    """Return the number of entries of a node."""
    return base if node[0] == "merge" else 1


def are_edges(base, nodes, value):
    """Return whether the value can be the edges of a graph with these nodes."""
    known = {node: True for node in nodes}
    if not isinstance(value, tuple) or not all([is_edge(base, known, edge) for edge in value]):
        return False
    # All exits and entries are right ones, so as many different ones as there are edges are all of them.
    exits = len(set([(source, door) for source, door, _, _, _ in value]))
    entries = len(set([(target, entry) for _, _, target, entry, _ in value]))
    if exits != sum([exits_of(base, node) for node in nodes]) or exits != len(value):
        return False
    if entries != sum([entries_of(base, node) for node in nodes]) or entries != len(value):
        return False
    return is_ascending(value) and not has_empty_cycle(value)


def is_edge(base, known, value):
    """Return whether the value can be an edge of a graph with the nodes that are the keys of known."""
    if not isinstance(value, tuple) or len(value) != 5:
        return False
    source, door, target, entry, length = value
    for node in (source, target):
        if not has_node_form(base, node) or node not in known:
            return False
    if not is_integer_within(0, exits_of(base, source) - 1, door):
        return False
    if not is_integer_within(0, entries_of(base, target) - 1, entry):
        return False
    return is_integer(length) and length >= 0


def has_empty_cycle(edges):
    """Return whether some cycle of edges has the total length 0."""
    following = {}
    before = {}
    for source, _, target, _, length in edges:
        if length == 0:
            following.setdefault(source, []).append(target)
            before[target] = before.get(target, 0) + 1
    # What no edge of length 0 enters any more is on no such cycle, and can be taken away.
    free = [node for node in following if node not in before]
    while free:
        node = free.pop()
        for target in following.get(node, []):
            before[target] = before[target] - 1
            if before[target] == 0:
                free.append(target)
    return any([count > 0 for count in before.values()])


def are_loops(value):
    """Return whether the value can be the loops of a graph."""
    if not isinstance(value, tuple) or not all([is_loop(loop) for loop in value]):
        return False
    return is_ascending([length for length, _ in value])


def is_loop(value):
    """Return whether the value is a pair of a length and a count."""
    if not isinstance(value, tuple) or len(value) != 2:
        return False
    length, count = value
    return is_integer(length) and length >= 1 and is_integer_within(1, MAX_COUNT, count)
