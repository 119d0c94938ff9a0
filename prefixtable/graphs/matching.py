"""Matchings of graphs, and certificates that two tables are the same up to a recoding, or are not."""

from prefixtable.base.integers import is_integer
from prefixtable.errors import InvalidOperation
from prefixtable.graphs.closed import MAX_DRAWN, closed_graph, entries_of, exits_of, has_node_form
from prefixtable.graphs.drawing import Drawing
from prefixtable.graphs.moves import can_make_all, reduce_drawing, require_graph
from prefixtable.tables.table import require_rows, require_square


def require_graphs(first, second):
    """Raise the errors of two graphs of one base."""
    require_graph(first)
    require_graph(second)
    if first[0] != second[0]:
        raise InvalidOperation("the graphs have different bases")


def matching(first, second):
    """Return any matching of two graphs, or None if there is none."""
    require_graphs(first, second)
    return matching_of(Drawing(first), Drawing(second))


def matching_of(one, other):
    """Return the same as matching for two drawings of graphs with the same base."""
    if one.loops != other.loops or len(one.nodes) != len(other.nodes):
        return None
    partners = {}
    taken = {}
    nodes = sorted(one.nodes)
    for node in nodes:
        if node not in partners:
            # Parts that match one another are alike for all other parts, so any of them may be taken.
            part = first_part(one, other, node, taken)
            if part is None:
                return None
            for place in part:
                partners[place] = part[place]
                taken[part[place][0]] = True
    pairs = tuple([(node, partners[node][0]) for node in nodes])
    return pairs, tuple([partners[node][1] for node in nodes])


def first_part(one, other, start, taken):
    """Return what part_from tells of a node for the first goal with which it is not None, or None."""
    goals = [goal for goal in sorted(other.nodes) if goal not in taken and goal[0] == start[0]]
    for goal in goals:
        part = part_from(one, other, start, goal)
        if part is not None:
            return part
    return None


def part_from(one, other, start, goal):
    """Return a dict from the nodes that hang together with start to pairs (partner, shift), or None.

    The partner of start is goal, and its shift is 0.
    """
    found = {start: (goal, 0)}
    waiting = [start]
    while waiting:
        node = waiting.pop()
        partner, shift = found[node]
        following = partners_near(one, other, node, partner, shift)
        if following is None:
            return None
        for place, told in following:
            if place not in found:
                found[place] = told
                waiting.append(place)
            if found[place] != told:
                return None
    # One node can still be the partner of several ones.
    return found if len(set([partner for partner, _ in found.values()])) == len(found) else None


def partners_near(one, other, node, partner, shift):
    """Return the pairs (node, (partner, shift)) that the edges at a node and its partner ask for, or None."""
    found = []
    for door in range(exits_of(one.width, node)):
        target, entry, length = one.leaving[node, door]
        goal, goal_entry, goal_length = other.leaving[partner, door]
        if entry != goal_entry or target[0] != goal[0]:
            return None
        found.append((target, (goal, shift + goal_length - length)))
    for entry in range(entries_of(one.width, node)):
        source, door = one.coming[node, entry]
        origin, origin_door = other.coming[partner, entry]
        if door != origin_door or source[0] != origin[0]:
            return None
        length = one.leaving[source, door][2]
        found.append((source, (origin, shift + length - other.leaving[origin, door][2])))
    return found


def is_matching(first, second, value):
    """Return whether the value is a matching of two graphs."""
    require_graphs(first, second)
    return matches(first, second, value)


def matches(first, second, value):
    """Return the same as is_matching for graphs that are known to be right, with the same base."""
    if not isinstance(value, tuple) or len(value) != 2:
        return False
    pairs, shifts = value
    if not are_pairs(first, second, pairs) or not isinstance(shifts, tuple) or len(shifts) != len(pairs):
        return False
    if not all([is_integer(shift) for shift in shifts]):
        return False
    partners = {node: (partner, shift) for (node, partner), shift in zip(pairs, shifts)}
    known = {edge: True for edge in second[2]}
    return first[3] == second[3] and all([edge_of_partners(partners, edge) in known for edge in first[2]])


def are_pairs(first, second, value):
    """Return whether the value has all nodes of both graphs in pairs of the same kind, ascending by the first ones."""
    if not isinstance(value, tuple) or not all([is_pair(first[0], pair) for pair in value]):
        return False
    partners = tuple(sorted([partner for _, partner in value]))
    return tuple([node for node, _ in value]) == first[1] and partners == second[1]


def is_pair(base, value):
    """Return whether the value is a pair of nodes of the same kind."""
    if not isinstance(value, tuple) or len(value) != 2:
        return False
    return has_node_form(base, value[0]) and has_node_form(base, value[1]) and value[0][0] == value[1][0]


def edge_of_partners(partners, edge):
    """Return the edge that the second graph must have for an edge of the first one."""
    source, door, target, entry, length = edge
    origin, shift = partners[source]
    goal, goal_shift = partners[target]
    return origin, door, goal, entry, length + goal_shift - shift


def require_tables(first, second):
    """Raise the errors of two drawn tables of one base."""
    require_square(first)
    require_square(second)
    if first.base != second.base:
        raise InvalidOperation("the tables have different bases")
    require_rows(MAX_DRAWN, first)
    require_rows(MAX_DRAWN, second)


def likeness_certificate(first, second):
    """Return any likeness certificate of two tables."""
    require_tables(first, second)
    one = Drawing(closed_graph(first))
    other = Drawing(closed_graph(second))
    moves = reduce_drawing(one)
    other_moves = reduce_drawing(other)
    told = matching_of(one, other)
    return ("unlike", moves, other_moves) if told is None else ("alike", moves, other_moves, told)


def are_alike(first, second):
    """Return whether the reduced graphs of two tables are alike."""
    return likeness_certificate(first, second)[0] == "alike"


def is_likeness_certificate(first, second, value):
    """Return whether the value is a likeness certificate of two tables."""
    require_tables(first, second)
    if not isinstance(value, tuple) or len(value) not in (3, 4) or value[0] not in ("alike", "unlike"):
        return False
    if len(value) != (4 if value[0] == "alike" else 3):
        return False
    one = reduced_by(first, value[1])
    other = reduced_by(second, value[2])
    if one is None or other is None:
        return False
    if value[0] == "alike":
        return matches(one.drawn(), other.drawn(), value[3])
    return matching_of(one, other) is None


def reduced_by(table, moves):
    """Return the drawing of the reduced graph to which moves lead from the closed graph of a table, or None."""
    drawing = Drawing(closed_graph(table))
    if not isinstance(moves, tuple) or not can_make_all(drawing, moves) or drawing.moves():
        return None
    return drawing
