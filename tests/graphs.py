"""Graphs of many kinds, and slow but plain definitions of what graphs, moves and matchings are."""

import itertools
import random

from prefixtable.graphs.closed import closed_graph
from prefixtable.graphs.moves import after_move, possible_moves
from prefixtable.tables.table import Table
from small import KNOWN_TABLES
from support import chance_rows, plain_inner, plain_prefix
from tables import FLIP, LAST, F, G


def plain_integer(value, least=None, most=None):
    """Tell whether a value is an integer within bounds."""
    if not isinstance(value, int) or value is True or value is False:
        return False
    return (least is None or value >= least) and (most is None or value <= most)


def plain_node(base, value):
    """Tell by the definition whether a value is a node."""
    return (isinstance(value, tuple) and len(value) == 2 and isinstance(value[0], str)
            and value[0] in ("merge", "split") and plain_prefix(base, 5000, value[1]))


def plain_ascending(row):
    """Tell whether a tuple is strictly ascending."""
    return all(one < other for one, other in zip(row, row[1:]))


def plain_edge(base, nodes, value):
    """Tell by the definition whether a value is an edge between such nodes."""
    if not isinstance(value, tuple) or len(value) != 5:
        return False
    source, door, target, entry, length = value
    if not plain_node(base, source) or not plain_node(base, target) or source not in nodes or target not in nodes:
        return False
    return (plain_integer(door, 0, base - 1 if source[0] == "split" else 0) and plain_integer(length, 0)
            and plain_integer(entry, 0, base - 1 if target[0] == "merge" else 0))


def plain_cycle_of_nothing(edges):
    """Tell whether some cycle of edges has the total length 0."""
    reached = {(source, target) for source, _, target, _, length in edges if length == 0}
    nodes = {node for pair in reached for node in pair}
    for middle in nodes:
        reached = reached | {(one, other) for one in nodes for other in nodes
                             if (one, middle) in reached and (middle, other) in reached}
    return any((node, node) in reached for node in nodes)


def plain_graph(value):
    """Tell by the definition whether a value is a graph."""
    if not isinstance(value, tuple) or len(value) != 4 or not plain_integer(value[0], 2, 5):
        return False
    base, nodes, edges, loops = value
    if not isinstance(nodes, tuple) or not all(plain_node(base, node) for node in nodes) or not plain_ascending(nodes):
        return False
    if not isinstance(edges, tuple) or not all(plain_edge(base, nodes, edge) for edge in edges):
        return False
    ends = sorted((node, door) for node in nodes for door in range(base if node[0] == "split" else 1))
    entries = sorted((node, entry) for node in nodes for entry in range(base if node[0] == "merge" else 1))
    if not plain_ascending(edges) or sorted(edge[:2] for edge in edges) != ends:
        return False
    if sorted(edge[2:4] for edge in edges) != entries or plain_cycle_of_nothing(edges):
        return False
    if not isinstance(loops, tuple) or not all(isinstance(loop, tuple) and len(loop) == 2 for loop in loops):
        return False
    if not all(plain_integer(length, 1) and plain_integer(count, 1, 5000) for length, count in loops):
        return False
    return plain_ascending([length for length, _ in loops])


def plain_closed(table):
    """Return the closed graph by following each edge as the document tells."""
    images, splits = dict(table.rows), plain_inner(table.left_code)
    passed = set()

    def left(prefix, length):
        return (("split", prefix), 0, length) if prefix in splits else right(images[prefix], length)

    def right(prefix, length):
        root, word = prefix
        if word:
            return ("merge", (root, word[:-1])), int(word[-1]), length
        passed.add(root)
        return left(prefix, length + 1)

    edges = [(("split", (root, word)), door) + left((root, word + str(door)), 0)
             for root, word in splits for door in range(table.base)]
    merges = plain_inner(table.right_code)
    edges = edges + [(("merge", prefix), 0) + right(prefix, 0) for prefix in merges]
    lengths = []
    roots = {root for root in range(table.left_roots) if root not in passed}
    while roots:
        root, length = min(roots), 0
        while root in roots:
            roots.remove(root)
            length, root = length + 1, images[root, ""][0]
        lengths.append(length)
    nodes = sorted([("split", prefix) for prefix in splits] + [("merge", prefix) for prefix in merges])
    return table.base, tuple(nodes), tuple(sorted(edges)), plain_loops(lengths)


def plain_loops(lengths):
    """Return the loops with these lengths, in any order."""
    return tuple((length, lengths.count(length)) for length in sorted(set(lengths)))


def loop_list(graph):
    """Return the lengths of the loops, each as often as it is there."""
    return [length for length, count in graph[3] for _ in range(count)]


def plain_moves(graph):
    """Return all possible moves by the definition, ascending."""
    base, nodes, edges, loops = graph
    found = [("cancel", source[1], target[1]) for source, _, target, _, _ in edges
             if source[0] == "merge" and target[0] == "split"]
    for one in nodes:
        for other in nodes:
            ways = [edge for edge in edges if edge[0] == one and edge[2] == other and edge[1] == edge[3]]
            if one[0] == "split" and other[0] == "merge" and len(ways) == base and len({edge[4] for edge in ways}) == 1:
                found.append(("collapse", one[1], other[1]))
    return sorted(found + [("fold", length) for length, count in loops if count >= base])


def plain_after(graph, move):
    """Return the graph after a possible move, by gluing the two edges at each place that goes away."""
    base, nodes, edges, _ = graph
    lengths = loop_list(graph)
    if move[0] == "fold":
        for _ in range(base - 1):
            lengths.remove(move[1])
        return base, nodes, edges, plain_loops(lengths)
    one = ("merge" if move[0] == "cancel" else "split", move[1])
    other = ("split" if move[0] == "cancel" else "merge", move[2])
    length = [edge[4] for edge in edges if edge[0] == one and edge[2] == other][0]
    rest = [list(edge) for edge in edges if not (edge[0] == one and edge[2] == other)]
    for place in range(base if move[0] == "cancel" else 1):
        # At each place one edge comes to the first node, and one leaves the second one.
        coming = [edge for edge in rest if (edge[2], edge[3]) == (one, place)][0]
        leaving = [edge for edge in rest if (edge[0], edge[1]) == (other, place)][0]
        rest.remove(coming)
        if coming is leaving or coming == leaving:
            lengths.append(coming[4] + length)
        else:
            rest.remove(leaving)
            rest.append(coming[:2] + leaving[2:4] + [coming[4] + length + leaving[4]])
    left = tuple(node for node in nodes if node not in (one, other))
    return base, left, tuple(sorted(tuple(edge) for edge in rest)), plain_loops(lengths)


def plain_matching(first, second, value):
    """Tell by the definition whether a value is a matching of two graphs of one base."""
    if not isinstance(value, tuple) or len(value) != 2 or not all(isinstance(part, tuple) for part in value):
        return False
    pairs, shifts = value
    if not all(isinstance(pair, tuple) and len(pair) == 2 and plain_node(first[0], pair[0])
               and plain_node(first[0], pair[1]) and pair[0][0] == pair[1][0] for pair in pairs):
        return False
    if tuple(pair[0] for pair in pairs) != first[1] or tuple(sorted(pair[1] for pair in pairs)) != second[1]:
        return False
    if len(shifts) != len(pairs) or not all(plain_integer(shift) for shift in shifts) or first[3] != second[3]:
        return False
    partner = dict(pairs)
    shift = dict(zip([pair[0] for pair in pairs], shifts))
    return all((partner[a], i, partner[b], j, length + shift[b] - shift[a]) in second[2]
               for a, i, b, j, length in first[2])


def plain_has_matching(first, second):
    """Tell whether two small graphs have a matching, by trying all ways to pair their nodes."""
    kinds = [[[node for node in graph[1] if node[0] == kind] for graph in (first, second)]
             for kind in ("merge", "split")]
    if first[3] != second[3] or any(len(one) != len(other) for one, other in kinds):
        return False
    for merges in itertools.permutations(kinds[0][1]):
        for splits in itertools.permutations(kinds[1][1]):
            partner = dict(zip(kinds[0][0] + kinds[1][0], merges + splits))
            if has_shifts(first, second, partner):
                return True
    return False


def has_shifts(first, second, partner):
    """Tell whether there are shifts with which these pairs are a matching."""
    ends = {edge[:4]: edge[4] for edge in second[2]}
    gains = []
    for a, i, b, j, length in first[2]:
        if (partner[a], i, partner[b], j) not in ends:
            return False
        gains.append((a, b, ends[partner[a], i, partner[b], j] - length))
    shifts = {}
    for start in first[1]:
        shifts.setdefault(start, 0)
        for _ in first[1]:
            for a, b, gain in gains:
                if a in shifts:
                    shifts.setdefault(b, shifts[a] + gain)
                elif b in shifts:
                    shifts.setdefault(a, shifts[b] - gain)
    return all(shifts[b] - shifts[a] == gain for a, b, gain in gains)


def expansion(base, roots, root):
    """Return the table that makes each digit of a root a root."""
    rows = [((one, ""), (one if one < root else one + base - 1, "")) for one in range(roots) if one != root]
    return Table(base, *rows, *[((root, str(digit)), (root + digit, "")) for digit in range(base)])


def with_more_roots(chance, table, steps):
    """Return a table that does the same on streams of which some roots are expanded, one after another."""
    for _ in range(steps):
        change = expansion(table.base, table.left_roots, chance.randrange(table.left_roots))
        table = change * table * ~change
    return table


def drawn_tables(seed, many, most=60):
    """Return the known tables, and so many more square tables of all bases with one to three roots, some with more."""
    chance = random.Random(seed)
    found = KNOWN_TABLES + [F * G, G * FLIP, LAST * G * F, ~F * G * F]
    size = len(found) + many
    while len(found) < size:
        base, roots = chance.randrange(2, 6), chance.randrange(1, 4)
        table = Table(base, *chance_rows(chance, base, roots, roots, chance.randrange(1, most)))
        if chance.randrange(3) == 0:
            table = with_more_roots(chance, table, chance.randrange(1, 4))
        if len(table) <= most:
            found.append(table)
    return found


def chance_reduction(chance, graph):
    """Return moves in an order that a generator of chances tells, and the reduced graph to which they lead."""
    found = []
    moves = list(possible_moves(graph))
    while moves:
        found.append(chance.choice(moves))
        graph = after_move(graph, found[-1])
        moves = list(possible_moves(graph))
    return tuple(found), graph


def renamed(chance, graph, shifting=True):
    """Return a graph that has a matching with a graph, and a matching from this one to it."""
    base, nodes, edges, loops = graph
    roots = chance.sample(range(5000), len(nodes))
    partner = {(kind, prefix): (kind, (root, chance.choice(("", "0", "10"))))
               for (kind, prefix), root in zip(nodes, roots)}
    shifts = {node: chance.randrange(-3, 4) if shifting else 0 for node in nodes}
    moved = tuple(sorted((partner[a], i, partner[b], j, length + shifts[b] - shifts[a])
                         for a, i, b, j, length in edges))
    told = base, tuple(sorted(partner.values())), moved, loops
    if not plain_graph(told):
        return renamed(chance, graph, False)
    return told, (tuple((node, partner[node]) for node in nodes), tuple(shifts[node] for node in nodes))


def beside_itself(chance, graph, many):
    """Return the graph that consists of so many graphs that match a graph, without their loops."""
    parts = [renamed(chance, graph)[0] for _ in range(many)]
    while len({node[1][0] for part in parts for node in part[1]}) < many * len(graph[1]):
        parts = [renamed(chance, graph)[0] for _ in range(many)]
    return (graph[0], tuple(sorted(node for part in parts for node in part[1])),
            tuple(sorted(edge for part in parts for edge in part[2])), ())


def some_graphs(seed, many):
    """Return closed graphs, graphs on the way to reduced ones, and reduced ones."""
    chance = random.Random(seed)
    found = []
    for table in drawn_tables(seed, many, 14):
        graph = closed_graph(table)
        moves, _ = chance_reduction(chance, graph)
        stop = chance.randrange(len(moves) + 1)
        for move in moves[:stop]:
            graph = after_move(graph, move)
        found.append(graph)
    return found
