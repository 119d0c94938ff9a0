"""The texts of values that are known to be right."""

from prefixtable.base.prefixes import prefix_text


def stream_text(stream):
    """Return the text of a stream."""
    root, head, period = stream
    return f"{prefix_text((root, head))}({period})"


def move_text(move):
    """Return the text of a move."""
    if move[0] == "fold":
        return f"fold {move[1]}"
    kind, one, other = move
    return f"{kind} {prefix_text(one)} {prefix_text(other)}"


def moves_text(moves):
    """Return the text of a tuple of moves."""
    return "; ".join([move_text(move) for move in moves]) or "none"


def node_text(node):
    """Return the text of a node as it stands in lines."""
    kind, prefix = node
    return f"{kind} {prefix_text(prefix)}"


def graph_text(graph):
    """Return the text of a graph."""
    base, nodes, edges, loops = graph
    lines = [f"base {base}"] + [f"node {node_text(node)}" for node in nodes]
    for source, door, target, entry, length in edges:
        lines.append(f"edge {node_text(source)} {door} > {node_text(target)} {entry} : {length}")
    return "\n".join(lines + [f"loop {length} x {count}" for length, count in loops])
