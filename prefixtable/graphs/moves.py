"""Moves: what reduces graphs, until no move is possible."""

from prefixtable.errors import InvalidGraph, InvalidMove
from prefixtable.graphs.closed import is_graph
from prefixtable.graphs.drawing import Drawing


def require_graph(graph):
    """Raise InvalidGraph if this is not a graph."""
    if not is_graph(graph):
        raise InvalidGraph("not a graph")


def possible_moves(graph):
    """Yield all possible moves, ascending."""
    require_graph(graph)
    drawing = Drawing(graph)
    for move in drawing.moves():
        yield move


def after_move(graph, move):
    """Return the graph after one move."""
    return after_all_moves(graph, (move,))


def after_moves(graph, *moves):
    """Return the graph after several moves in order."""
    return after_all_moves(graph, moves)


def after_all_moves(graph, moves):
    """Return the same as after_moves for a tuple of moves."""
    require_graph(graph)
    if not isinstance(moves, tuple):
        raise InvalidMove("not a tuple of moves")
    drawing = Drawing(graph)
    if not can_make_all(drawing, moves):
        raise InvalidMove("the move is not possible")
    return drawing.drawn()


def can_make_all(drawing, moves):
    """Make moves in order, up to the first one that is not possible, and return whether there is none of these."""
    for move in moves:
        if not drawing.allows(move):
            return False
        drawing.make(move)
    return True


def is_reduced(value):
    """Return whether the value is a reduced graph."""
    return is_graph(value) and not Drawing(value).moves()


def reduction(graph):
    """Return any tuple of moves that leads from the graph to a reduced one."""
    require_graph(graph)
    return reduce_drawing(Drawing(graph))


def reduce_drawing(drawing):
    """Make moves until none is possible, and return them."""
    found = []
    many = -1
    while len(found) > many:
        many = len(found)
        nodes = sorted(drawing.nodes)
        for node in nodes:
            move = drawing.move_at(node) if node in drawing.nodes else None
            if move is not None:
                drawing.make(move)
                found.append(move)
    # Only moves of nodes make loops of other lengths, and folds make none of those possible.
    lengths = sorted(drawing.loops)
    for length in lengths:
        move = ("fold", length)
        while drawing.allows(move):
            drawing.make(move)
            found.append(move)
    return tuple(found)


def reversed_graph(graph):
    """Return the graph in which all edges lead the other way, with splits and merges exchanged."""
    require_graph(graph)
    base, nodes, edges, loops = graph
    turned = [(reversed_node(target), entry, reversed_node(source), door, length)
              for source, door, target, entry, length in edges]
    return base, tuple(sorted([reversed_node(node) for node in nodes])), tuple(sorted(turned)), loops


def reversed_node(node):
    """Return the node of the other kind with the same prefix."""
    kind, prefix = node
    return "split" if kind == "merge" else "merge", prefix
