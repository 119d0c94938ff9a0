"""Changes of tables by recodings, and slow but plain definitions of circles, products and recodings."""

import random

from prefixtable.graphs.closed import closed_graph
from prefixtable.tables.table import Table
from graphs import chance_reduction
from small import small_tables
from support import chance_rows, plain_least


def chance_change(chance, base, roots, size, goal=None):
    """Return a table of about so many rows from so many roots to as many, more or fewer ones."""
    told = [roots, roots + base - 1, roots + 2 * (base - 1)] + [roots - base + 1] * (roots > base - 1)
    goal = chance.choice(told) if goal is None else goal
    return Table(base, *chance_rows(chance, base, roots, goal, size))


def plain_product(base, last, first):
    """Return the least rows of the map that does the rows first and then the rows last, by the definition."""
    found = {}
    for left, middle in first:
        for other, right in last:
            if middle[0] == other[0] and middle[1].startswith(other[1]):
                found[left] = (right[0], right[1] + middle[1][len(other[1]):])
            elif middle[0] == other[0] and other[1].startswith(middle[1]):
                found[left[0], left[1] + other[1][len(middle[1]):]] = right
    return plain_least(base, tuple(sorted(found.items())))


def plain_inverse(rows):
    """Return the rows of the inverse."""
    return tuple(sorted((right, left) for left, right in rows))


def plain_recoded(table, change):
    """Return the least rows of change * table * ~change by the definition."""
    first = plain_product(table.base, table.rows, plain_inverse(change.rows))
    return plain_product(table.base, change.rows, first)


def plain_leads(first, second, value):
    """Tell by the definition whether a value is a recoding from the first table to the second one."""
    if not isinstance(value, Table) or value.base != first.base:
        return False
    if (value.left_roots, value.right_roots) != (first.left_roots, second.left_roots):
        return False
    return (plain_product(first.base, value.rows, first.rows)
            == plain_product(first.base, second.rows, value.rows))


def chance_reduced_graph(chance, table):
    """Return a reduced graph of a table, to which moves in some order lead."""
    return chance_reduction(chance, closed_graph(table))[1]


def least_rotation(word):
    """Return the smallest rotation of a word."""
    return sorted(word[at:] + word[:at] for at in range(len(word)))[0]


def plain_circles(graph, kind):
    """Return the pairs (length, word) of the circles of a reduced graph by the definition, ascending."""
    _, nodes, edges, _ = graph
    found = {}
    for node in nodes:
        way = [node]
        rows = []
        while node[0] == kind and len(rows) <= len(nodes):
            if kind == "merge":
                edge = [edge for edge in edges if edge[0] == way[-1]][0]
                way.append(edge[2])
                rows.append((edge[4], str(edge[3])))
            else:
                edge = [edge for edge in edges if edge[2] == way[-1]][0]
                way.append(edge[0])
                rows.append((edge[4], str(edge[1])))
            if way[-1] == node:
                # Both kinds are read against the way, as one goes on along the edges and the other one back.
                told = sum(length for length, _ in rows), least_rotation("".join(word for _, word in rows[::-1]))
                found[tuple(sorted(way[1:]))] = told
                break
    return tuple(sorted(found.values()))


def pairs_of_tables(seed, many, size=9):
    """Return so many pairs of small tables of one base: recoded ones, inverse ones, powers, and any."""
    chance = random.Random(seed)
    tables = small_tables(seed, 60)
    found = []
    while len(found) < many:
        first = chance.choice(tables)
        change = chance_change(chance, first.base, first.left_roots, chance.randrange(1, 6))
        second = chance.choice([first, first, ~first, first ** chance.choice((-1, 2, 3)),
                                chance.choice([table for table in tables if table.base == first.base])])
        if second.left_roots == change.left_roots:
            second = change * second * ~change
        if len(second) <= size and len(first) <= size:
            found.append((first, second))
    return found
