"""A graph that moves change step by step."""

from prefixtable.base.integers import is_integer
from prefixtable.base.words import MAX_ROOTS, has_prefix_form


def has_move_form(base, value):
    """Return whether the value is a move as it is written, whether or not it is possible in some graph."""
    if not isinstance(value, tuple) or len(value) not in (2, 3):
        return False
    if len(value) == 2:
        return value[0] == "fold" and is_integer(value[1]) and value[1] >= 1
    kind, one, other = value
    if kind not in ("cancel", "collapse"):
        return False
    return has_prefix_form(base, MAX_ROOTS, one) and has_prefix_form(base, MAX_ROOTS, other)


class Drawing:
    """A graph as dicts: from exits to (target, entry, length), from entries to (source, exit), and of the loops."""

    def __init__(self, graph):
        base, nodes, edges, loops = graph
        self.width = base
        self.nodes = {node: True for node in nodes}
        self.leaving = {(source, door): (target, entry, length) for source, door, target, entry, length in edges}
        self.coming = {(target, entry): (source, door) for source, door, target, entry, _ in edges}
        self.loops = {length: count for length, count in loops}

    def drawn(self):
        """Return the graph."""
        edges = [origin + end for origin, end in self.leaving.items()]
        return self.width, tuple(sorted(self.nodes)), tuple(sorted(edges)), tuple(sorted(self.loops.items()))

    def move_at(self, node):
        """Return the move that takes away a node and the node to which its first exit leads, or None."""
        target, _, length = self.leaving[node, 0]
        if node[0] == target[0]:
            return None
        if node[0] == "merge":
            return "cancel", node[1], target[1]
        ways = [self.leaving[node, digit] for digit in range(self.width)]
        if ways != [(target, digit, length) for digit in range(self.width)]:
            return None
        return "collapse", node[1], target[1]

    def moves(self):
        """Return the list of all possible moves, ascending."""
        found = [self.move_at(node) for node in self.nodes]
        folds = [("fold", length) for length, count in self.loops.items() if count >= self.width]
        return sorted([move for move in found if move is not None] + folds)

    def allows(self, move):
        """Return whether the value is a move that is possible."""
        if not has_move_form(self.width, move):
            return False
        if move[0] == "fold":
            return self.loops.get(move[1], 0) >= self.width
        node = ("merge" if move[0] == "cancel" else "split", move[1])
        return node in self.nodes and self.move_at(node) == move

    def make(self, move):
        """Make a move that is possible."""
        if move[0] == "fold":
            self.loops[move[1]] = self.loops[move[1]] - self.width + 1
        elif move[0] == "cancel":
            self.cancel(("merge", move[1]), ("split", move[2]))
        else:
            self.collapse(("split", move[1]), ("merge", move[2]))

    def cancel(self, merge, split):
        """Take away a merge and the split to which it leads, and join what came to the one and left the other."""
        _, _, length = self.leaving.pop((merge, 0))
        self.coming.pop((split, 0))
        origins = [self.coming.pop((merge, digit)) for digit in range(self.width)]
        ends = [self.leaving.pop((split, digit)) for digit in range(self.width)]
        seen = []
        for digit, origin in enumerate(origins):
            if origin[0] != split:
                digits, more, end = way_through(ends, merge, length, digit)
                seen = seen + digits
                self.connect(origin, end, self.leaving[origin][2] + more)
        for digit in range(self.width):
            if digit not in seen:
                digits, total, _ = way_through(ends, merge, length, digit)
                seen = seen + digits
                self.add_loop(total)
        self.remove_nodes(merge, split)

    def collapse(self, split, merge):
        """Take away a split and the merge to which all its exits lead, and join what came to the one and left."""
        _, _, length = self.leaving[split, 0]
        for digit in range(self.width):
            self.leaving.pop((split, digit))
            self.coming.pop((merge, digit))
        origin = self.coming.pop((split, 0))
        _, _, before = self.leaving.pop(origin)
        if origin[0] == merge:
            self.add_loop(before + length)
        else:
            target, entry, behind = self.leaving.pop((merge, 0))
            self.connect(origin, (target, entry), before + length + behind)
        self.remove_nodes(merge, split)

    def connect(self, origin, end, length):
        """Put in the edge from an exit to an entry."""
        self.leaving[origin] = end + (length,)
        self.coming[end] = origin

    def add_loop(self, length):
        """Put in one more loop of a length."""
        self.loops[length] = self.loops.get(length, 0) + 1

    def remove_nodes(self, merge, split):
        """Take away two nodes whose edges are gone."""
        del self.nodes[merge]
        del self.nodes[split]


def way_through(ends, merge, length, first):
    """Return the way that begins with a digit behind a merge and leads through the edge to its split.

    It is told by the digits with which the edge is passed, the total length, and the entry to which it leads at last,
    or None if it closes.
    """
    digits = []
    total = 0
    at = first
    while at not in digits:
        digits.append(at)
        target, entry, more = ends[at]
        total = total + length + more
        if target != merge:
            return digits, total, (target, entry)
        at = entry
    return digits, total, None
