"""Circles and loops of reduced graphs, and the orders that they tell."""

from math import lcm

from prefixtable.graphs.closed import closed_graph
from prefixtable.graphs.drawing import Drawing
from prefixtable.graphs.moves import reduce_drawing


def reduced_drawing(table):
    """Return the drawing of a reduced graph of a drawn table."""
    drawing = Drawing(closed_graph(table))
    reduce_drawing(drawing)
    return drawing


def growing_circles(table):
    """Return the pairs (length, word) of all growing circles of a drawn table, ascending."""
    drawing = reduced_drawing(table)
    return circles_of({node: drawing.leaving[node, 0] for node in drawing.nodes if node[0] == "merge"})


def shrinking_circles(table):
    """Return the pairs (length, word) of all shrinking circles of a drawn table, ascending."""
    drawing = reduced_drawing(table)
    steps = {}
    for node in drawing.nodes:
        if node[0] == "split":
            source, door = drawing.coming[node, 0]
            steps[node] = (source, door, drawing.leaving[source, door][2])
    return circles_of(steps)


def circles_of(steps):
    """Return the circles of the steps (next node, number, length) from each node as pairs (length, word), ascending."""
    found = []
    reached = {}
    for start in steps:
        at = start
        while at not in reached:
            reached[at] = start
            at = steps[at][0]
        # Only a way that comes back to itself, not to an earlier one, has found a circle.
        if reached[at] == start:
            found.append(circle_from(steps, at))
    return tuple(sorted(found))


def circle_from(steps, first):
    """Return the pair (length, word) of the circle of a node."""
    at, number, total = steps[first]
    numbers = [str(number)]
    while at != first:
        at, number, length = steps[at]
        numbers.append(str(number))
        total = total + length
    # The steps lead along the edges between merges and against those between splits, and words are read otherwise.
    return total, least_turn("".join(numbers[::-1]))


def least_turn(word):
    """Return the smallest rotation of a word."""
    return min([word[at:] + word[:at] for at in range(len(word))])


def loop_lengths(table):
    """Return a dict from the lengths of the loops of a drawn table, ascending, to their counts."""
    loops = reduced_drawing(table).loops
    return {length: loops[length] for length in sorted(loops)}


def order(table):
    """Return the order of a drawn table, or None if it has no finite order."""
    drawing = reduced_drawing(table)
    if drawing.nodes:
        return None
    found = 1
    for length in drawing.loops:
        found = lcm(found, length)
    return found
