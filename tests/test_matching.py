"""[10.1], [10.2] and the functions of prefixtable.graphs.matching."""

import random
import unittest

from prefixtable.errors import InvalidGraph, InvalidOperation, InvalidTable, TooMany
from prefixtable.graphs.closed import closed_graph
from prefixtable.graphs.matching import (
    are_alike, is_likeness_certificate, is_matching, likeness_certificate, matching)
from prefixtable.graphs.moves import after_all_moves, is_reduced, reduction
from prefixtable.tables.table import Table
from graphs import (
    beside_itself, chance_reduction, drawn_tables, plain_graph, plain_has_matching, plain_matching, renamed,
    some_graphs, with_more_roots)
from small import LONG, LONG_GROWTH, NOT_SQUARE, ROOT_GROWTH, TWO_ROOTS, WORD_GROWTH, small_tables
from support import KEEPS_NOTHING, OTHER_VALUES, Case, chance_rows, changed
from tables import FLIP, LAST, NO_TABLES, F, G
from test_graphs import FLIP_GRAPH, M1, S1, TREE, TURNED, M, S
from test_moves import CHAIN, NO_GRAPHS, NO_MOVES
from test_regions import SIXTY_ONE

GRAPHS = some_graphs(9, 120) + [FLIP_GRAPH, TURNED, TREE, CHAIN]


def reduced(table):
    """Return the reduced graph of a table."""
    return after_all_moves(closed_graph(table), reduction(closed_graph(table)))


def circle(base, lengths, root=0):
    """Return a graph of merges in a circle with these lengths and as many splits, which all lead to the merges."""
    many = len(lengths)
    merges = [("merge", (root + at, "")) for at in range(many)]
    splits = [("split", (root + at, "")) for at in range(many)]
    edges = [(merges[at], 0, merges[(at + 1) % many], 0, length) for at, length in enumerate(lengths)]
    edges = edges + [(splits[at], 0, splits[(at + 1) % many], 0, 1) for at in range(many)]
    edges = edges + [(splits[at], door, merges[at], door, 0) for at in range(many) for door in range(1, base)]
    return base, tuple(sorted(merges + splits)), tuple(sorted(edges)), ()


def joined(*graphs):
    """Return the graph that consists of several graphs with different roots and without loops."""
    return (graphs[0][0], tuple(sorted(node for graph in graphs for node in graph[1])),
            tuple(sorted(edge for graph in graphs for edge in graph[2])), ())


class ExamplesTest(Case):

    def test_printed_examples(self):
        self.assertEqual([matching(closed_graph(F), closed_graph(F)) is None,
                          matching(closed_graph(G), closed_graph(~G))], [False, None])
        self.assertEqual([are_alike(G, ~G), are_alike(G, F * G * ~F), likeness_certificate(F, G)[0]],
                         [False, True, "unlike"])


class MatchingTest(Case):

    def check_matching(self, first, second):
        told = matching(first, second)
        self.assertTrue(plain_matching(first, second, told), (first, second, told))
        self.assertIs(is_matching(first, second, told), True)

    def test_graphs_that_match(self):
        chance = random.Random(10)
        for graph in GRAPHS + [closed_graph(table) for table in drawn_tables(11, 60)]:
            other, right = renamed(chance, graph)
            self.check_matching(graph, graph)
            self.check_matching(graph, other)
            self.check_matching(other, graph)
            self.assertTrue(plain_matching(graph, other, right))
            self.assertIs(is_matching(graph, other, right), True)

    def test_small_graphs_with_one_change(self):
        chance = random.Random(12)
        found = [0, 0]
        for graph in [graph for graph in GRAPHS if 0 < len(graph[1]) <= 8] * 6:
            base, nodes, edges, loops = renamed(chance, graph)[0]
            at, other = chance.randrange(len(edges)), chance.randrange(len(edges))
            one, two = edges[at], edges[other]
            lengths = [(base, nodes, edges[:at] + (one[:4] + (one[4] + more,),) + edges[at + 1:], loops)
                       for more in (-1, 1, 2)]
            rest = [edge for edge in edges if edge not in (one, two)]
            swapped = (base, nodes, tuple(sorted(rest + [one[:2] + two[2:], two[:2] + one[2:]])), loops)
            longer = (base, nodes, edges, loops + ((10 ** 9, 1),))
            for value in lengths + [swapped, longer]:
                if plain_graph(value):
                    fits = plain_has_matching(graph, value)
                    found[fits] = found[fits] + 1
                    self.assertEqual(matching(graph, value) is not None, fits)
                    self.assertEqual(matching(value, graph) is not None, fits)
                    if fits:
                        self.check_matching(graph, value)
        self.assertGreater(min(found), 20)

    def test_pairs_of_small_graphs(self):
        small = [graph for graph in GRAPHS if graph[0] == 2 and len(graph[1]) <= 6]
        for first in small:
            for second in small[::3]:
                self.assertEqual(matching(first, second) is not None, plain_has_matching(first, second))

    def test_lengths_count_only_around_cycles(self):
        self.check_matching(circle(2, (1, 2, 3)), circle(2, (3, 1, 2)))
        for lengths in ((0, 0, 6), (6, 0, 0), (2, 2, 2)):
            # Around the circle the lengths have the same sum, but the edges from the splits tell the nodes apart.
            self.assertEqual(matching(circle(2, (1, 2, 3)), circle(2, lengths)) is not None,
                             plain_has_matching(circle(2, (1, 2, 3)), circle(2, lengths)))
        self.assertIsNone(matching(circle(2, (1, 2, 3)), circle(2, (1, 2, 4))))
        self.assertIsNone(matching(circle(2, (1, 2, 3)), circle(2, (1, 3, 2))))
        one = (2, (M, S), ((M, 0, M, 1, 2), (S, 0, M, 0, 0), (S, 1, S, 0, 1)), ())
        other = (2, (M, S), ((M, 0, M, 1, 2), (S, 0, M, 0, 9), (S, 1, S, 0, 1)), ())
        self.assertEqual(sorted(matching(one, other)[0]), [(M, M), (S, S)])
        shifts = matching(one, other)[1]
        self.assertEqual(shifts[0] - shifts[1], 9)
        for change in (((M, 0, M, 1, 3), (S, 0, M, 0, 0), (S, 1, S, 0, 1)),
                       ((M, 0, M, 0, 2), (S, 0, M, 1, 0), (S, 1, S, 0, 1)),
                       ((M, 0, M, 1, 2), (S, 0, S, 0, 1), (S, 1, M, 0, 0)),
                       ((M, 0, M, 1, 2), (S, 0, M, 0, 0), (S, 1, S, 0, 2))):
            self.assertIsNone(matching(one, (2, (M, S), change, ())))

    def test_several_components_that_are_alike(self):
        chance = random.Random(13)
        for graph in [graph for graph in GRAPHS if 0 < len(graph[1]) <= 10][:40]:
            for many, as_many in ((2, 2), (3, 3), (2, 3), (1, 2)):
                one, other = beside_itself(chance, graph, many), beside_itself(chance, graph, as_many)
                if many == as_many:
                    self.check_matching(one, other)
                else:
                    self.assertIsNone(matching(one, other))

    def test_components_that_nearly_are_alike(self):
        parts = [circle(2, (1, 1, 2)), circle(2, (1, 1, 3), 10), circle(2, (1, 1, 2), 20), circle(2, (2, 1, 1), 30)]
        self.check_matching(joined(parts[0], parts[1]), joined(parts[1], parts[2]))
        self.check_matching(joined(parts[0], parts[2]), joined(parts[2], parts[3]))
        self.assertIsNone(matching(joined(parts[0], parts[1]), joined(parts[0], parts[2])))
        self.assertIsNone(matching(joined(parts[0], parts[2], parts[1]), joined(parts[0], parts[1],
                                                                                circle(2, (1, 1, 3), 40))))

    def test_one_graph_that_runs_twice_around_another_one(self):
        once, twice = circle(2, (3,)), circle(2, (3, 3))
        self.assertIsNone(matching(twice, once))
        self.assertIsNone(matching(twice, joined(once, circle(2, (3,), 10))))
        self.assertIsNone(matching(joined(once, circle(2, (3,), 10)), twice))
        self.assertIsNone(matching(joined(once, circle(2, (3, 3, 3), 10)), joined(twice, circle(2, (3, 3), 10))))

    def test_graphs_without_nodes(self):
        self.assertEqual(matching((2, (), (), ()), (2, (), (), ())), ((), ()))
        self.assertEqual(matching((2, (), (), ((1, 3),)), (2, (), (), ((1, 3),))), ((), ()))
        self.assertIs(is_matching((2, (), (), ((1, 3),)), (2, (), (), ((1, 3),)), ((), ())), True)
        for loops in (((1, 2),), ((2, 3),), (), ((1, 3), (2, 1))):
            self.assertIsNone(matching((2, (), (), ((1, 3),)), (2, (), (), loops)))
            self.assertIs(is_matching((2, (), (), ((1, 3),)), (2, (), (), loops), ((), ())), False)

    def test_large_graphs(self):
        one, other = circle(3, (1,) * 700), circle(3, (1,) * 300 + (2,) + (1,) * 399, 1000)
        self.assertIsNone(matching(one, other))
        turned = circle(3, (1,) * 700, 1000)
        self.check_large(one, turned)
        self.check_large(other, circle(3, (1,) * 500 + (2,) + (1,) * 199))

    def check_large(self, first, second):
        self.assertIs(is_matching(first, second, matching(first, second)), True)


class IsMatchingTest(Case):

    def test_matchings_of_others(self):
        chance = random.Random(14)
        for graph in GRAPHS:
            other, (pairs, shifts) = renamed(chance, graph)
            moved = (pairs, tuple(shift + 17 for shift in shifts))
            self.assertIs(is_matching(graph, other, moved), True)
            if pairs:
                at = chance.randrange(len(pairs))
                values = [(pairs, shifts[:at] + (shifts[at] + 1,) + shifts[at + 1:]), (pairs[::-1], shifts[::-1]),
                          (pairs[1:], shifts[1:]), (pairs, shifts[1:]), (pairs, shifts + (0,)),
                          (pairs + pairs[:1], shifts + shifts[:1]), (list(pairs), shifts), (pairs, list(shifts)),
                          (tuple((one, pairs[0][1]) for one, _ in pairs), shifts),
                          (tuple(zip(sorted(one for one, _ in pairs), sorted(two for _, two in pairs))), shifts)]
                for value in values:
                    self.assertIs(is_matching(graph, other, value), plain_matching(graph, other, value))

    def test_changed_matchings(self):
        for graph in (FLIP_GRAPH, TURNED):
            for value in changed(matching(graph, graph)):
                self.assertIs(is_matching(graph, graph, value), plain_matching(graph, graph, value), value)
        twins = joined(circle(2, (3,)), circle(2, (3,), 1))
        pairs = (M, M1), (M1, M), (S, S1), (S1, S)
        for shifts, fits in (((0, 0, 0, 0), True), ((5, -2, 5, -2), True), ((5, -2, -2, 5), False),
                             ((5, 0, 0, 5), False), ((0, 0, 0, False), False), ((0, 0, 0, None), False)):
            self.assertIs(is_matching(twins, twins, (pairs, shifts)), fits)
        self.assertIs(is_matching(twins, twins, (((M, M), (M1, M1), (S, S1), (S1, S)), (0,) * 4)), False)
        self.assertIs(is_matching(twins, twins, (((M, S), (M1, S1), (S, M), (S1, M1)), (0,) * 4)), False)
        wrong = ((("merge", (False, "")), M), (M1, M1), (S, S), (S1, S1))
        self.assertIs(is_matching(twins, twins, (wrong, (0,) * 4)), False)
        wrong = ((M, ("merge", (False, ""))), (M1, M1), (S, S), (S1, S1))
        self.assertIs(is_matching(twins, twins, (wrong, (0,) * 4)), False)

    def test_pairs_that_leave_out_nodes_or_have_them_twice(self):
        once, twice = circle(2, (3,)), circle(2, (3, 3))
        both = joined(once, circle(2, (3,), 1))
        doubled = (((M, M), (M1, M), (S, S), (S1, S)), (0,) * 4)
        for first, second, value in ((twice, once, doubled), (both, once, doubled), (both, both, doubled),
                                     (once, both, (((M, M), (S, S)), (0, 0))), (both, twice, doubled)):
            self.assertFalse(plain_matching(first, second, value))
            self.assertIs(is_matching(first, second, value), False)
        self.assertIs(is_matching(once, once, (((M, M), (S, S)), (0, 0))), True)

    def test_values_of_other_kinds(self):
        for value in OTHER_VALUES + [F, (F, F), ((), ()), ((), (), ()), FLIP_GRAPH, (None, None), ((F,), (0,))]:
            self.assertIs(is_matching(FLIP_GRAPH, FLIP_GRAPH, value), False)

    def test_errors(self):
        for call in (matching, lambda first, second: is_matching(first, second, None)):
            for value in NO_GRAPHS:
                self.check_error(InvalidGraph, KEEPS_NOTHING, call, value, None)
                self.check_error(InvalidGraph, KEEPS_NOTHING, call, value, FLIP_GRAPH)
                self.check_error(InvalidGraph, KEEPS_NOTHING, call, FLIP_GRAPH, value)
                self.check_error(InvalidGraph, KEEPS_NOTHING, call, CHAIN, value)
            self.check_error(InvalidOperation, KEEPS_NOTHING, call, FLIP_GRAPH, CHAIN)
            self.check_error(InvalidOperation, KEEPS_NOTHING, call, (2, (), (), ()), (3, (), (), ()))


class LikenessTest(Case):

    def check_certificate(self, first, second, fits):
        told = likeness_certificate(first, second)
        self.assertEqual(told[0], "alike" if fits else "unlike")
        self.assertIs(are_alike(first, second), fits)
        self.assertIs(is_likeness_certificate(first, second, told), True)
        graphs = [after_all_moves(closed_graph(table), moves) for table, moves in ((first, told[1]), (second, told[2]))]
        self.assertTrue(is_reduced(graphs[0]) and is_reduced(graphs[1]))
        if fits:
            self.assertTrue(plain_matching(*graphs, told[3]))
            self.assertEqual(len(told), 4)
        else:
            self.assertIsNone(matching(*graphs))
            self.assertEqual(len(told), 3)

    def test_recoded_tables_are_alike(self):
        chance = random.Random(15)
        for table in small_tables(15, 60):
            base, roots = table.base, table.left_roots
            change = Table(base, *chance_rows(chance, base, roots, roots, 5))
            other = with_more_roots(chance, change * table * ~change, chance.randrange(3))
            if len(other) <= 60:
                self.check_certificate(table, other, True)
                self.check_certificate(other, table, True)
                self.check_certificate(~table, ~other, True)

    def test_tables_that_are_not_alike(self):
        for first, second in ((F, G), (G, ~G), (G, G ** 2), (FLIP, F), (LONG, LONG ** 2), (WORD_GROWTH, ~WORD_GROWTH),
                              (LONG_GROWTH, ~LONG_GROWTH), (G, ROOT_GROWTH), (F, LAST), (FLIP, Table.identity(2))):
            self.check_certificate(first, second, False)
        # With base 3 one root is not like two roots, but like three of them.
        for roots, fits in ((2, False), (3, True), (4, False), (5, True)):
            self.check_certificate(Table.identity(3), Table.identity(3, roots=roots), fits)
        self.check_certificate(Table.identity(2), Table.identity(2, roots=60), True)
        self.check_certificate(F, F ** 2, True)
        self.check_certificate(F, ~F, True)
        self.check_certificate(TWO_ROOTS, Table(2, ((0, ""), (1, "")), ((1, ""), (2, "")), ((2, ""), (0, ""))), True)

    def test_likeness_and_orders(self):
        tables = small_tables(16, 60)
        for first in tables:
            for second in tables[::5]:
                if first.base == second.base:
                    told = are_alike(first, second)
                    self.assertIs(told, are_alike(second, first))
                    self.assertIs(told, matching(reduced(first), reduced(second)) is not None)
                    if told:
                        self.assertEqual(reduced(first)[3], reduced(second)[3])

    def test_certificates_of_others(self):
        chance = random.Random(17)
        for table in drawn_tables(17, 40, 20):
            other = with_more_roots(chance, table, 1)
            for second, fits in ((other, True), (Table.identity(table.base, roots=table.left_roots), None)):
                if len(second) <= 60:
                    fits = are_alike(table, second) if fits is None else fits
                    ways = [chance_reduction(chance, closed_graph(one)) for one in (table, second)]
                    told = matching(ways[0][1], ways[1][1])
                    self.assertEqual(told is not None, fits)
                    start = (ways[0][0], ways[1][0])
                    self.check_judged(table, second, start, told, fits)

    def check_judged(self, first, second, start, told, fits):
        self.assertIs(is_likeness_certificate(first, second, ("unlike",) + start), not fits)
        if fits:
            pairs, shifts = told
            right = ("alike",) + start + (told,)
            self.assertIs(is_likeness_certificate(first, second, right), True)
            moved = ("alike",) + start + ((pairs, tuple(shift - 3 for shift in shifts)),)
            self.assertIs(is_likeness_certificate(first, second, moved), True)
            wrong = [("alike",) + start, ("alike",) + start + (None,), ("unlike",) + start + (told,), list(right),
                     ("alike", start[0], start[1], (pairs, shifts + (0,))), right + (None,), ("Alike",) + right[1:]]
            if start[0]:
                wrong.append(("alike", start[0][:-1], start[1], told))
                wrong.append(("alike", start[0] + start[0][-1:], start[1], told))
                wrong.append(("alike", list(start[0]), start[1], told))
            if start[1]:
                wrong.append(("alike", start[0], start[1][:-1], told))
                wrong.append(("alike", start[0], start[1] + (("fold", 10 ** 30),), told))
            for value in wrong:
                self.assertIs(is_likeness_certificate(first, second, value), False)
        else:
            for matched in (((), ()), None):
                self.assertIs(is_likeness_certificate(first, second, ("alike",) + start + (matched,)), False)
            if start[0]:
                self.assertIs(is_likeness_certificate(first, second, ("unlike", start[0][:-1], start[1])), False)
            if start[1]:
                self.assertIs(is_likeness_certificate(first, second, ("unlike", start[0], start[1][:-1])), False)

    def test_certificates_of_other_tables(self):
        told = likeness_certificate(G, F * G * ~F)
        self.assertIs(is_likeness_certificate(G, F * G * ~F, told), True)
        for first, second in ((G, ~G), (~G, G), (F, G), (FLIP, FLIP), (G * G, G)):
            self.assertIs(is_likeness_certificate(first, second, told), False)
        told = likeness_certificate(F, G)
        for first, second in ((G, F), (F, F), (G, G)):
            self.assertIs(is_likeness_certificate(first, second, told), False)

    def test_changed_certificates(self):
        for first, second in ((FLIP, FLIP), (G, G), (F, G), (FLIP, G)):
            right = likeness_certificate(first, second)
            for value in changed(right):
                if repr(value) == repr(right):
                    continue
                told = is_likeness_certificate(first, second, value)
                self.assertIs(told, self.plain_certificate(first, second, value), value)

    def plain_certificate(self, first, second, value):
        """Tell whether a changed certificate is right: only the shifts and the nodes of a matching can still be."""
        right = likeness_certificate(first, second)
        if right[0] == "unlike" or not isinstance(value, tuple) or repr(value[:3]) != repr(right[:3]) or len(value) != 4:
            return False
        return plain_matching(reduced(first), reduced(second), value[3])

    def test_values_of_other_kinds(self):
        for value in OTHER_VALUES + [F, ("alike",), ("unlike",), ("alike", None, None, None), ("unlike", None, None),
                                     ("unlike", (), ()), ("alike", (), (), ()), (F, (), ()), ("alike", (), (), ((), ()))]:
            for first, second in ((F, G), (G, G), (FLIP, FLIP)):
                self.assertIs(is_likeness_certificate(first, second, value), False)
        for move in NO_MOVES:
            self.assertIs(is_likeness_certificate(F, G, ("unlike", (move,), ())), False)
        same = Table.identity(2)
        self.assertIs(is_likeness_certificate(same, same, ("alike", (), (), ((), ()))), True)
        self.assertIs(is_likeness_certificate(same, FLIP, ("unlike", (), (("cancel", (0, ""), (0, "")),))), True)

    def test_errors(self):
        calls = [likeness_certificate, are_alike, lambda first, second: is_likeness_certificate(first, second, None)]
        for call in calls:
            for value in NO_TABLES:
                self.check_error(InvalidTable, KEEPS_NOTHING, call, value, None)
                self.check_error(InvalidTable, KEEPS_NOTHING, call, F, value)
                self.check_error(InvalidTable, KEEPS_NOTHING, call, SIXTY_ONE, value)
            for table in NOT_SQUARE:
                self.check_error(InvalidOperation, KEEPS_NOTHING, call, table, None)
                self.check_error(InvalidOperation, KEEPS_NOTHING, call, F, table)
                self.check_error(InvalidOperation, KEEPS_NOTHING, call, SIXTY_ONE, table)
            for first, second in ((F, Table.identity(3)), (SIXTY_ONE, Table.identity(3)), (WORD_GROWTH, G),
                                  (Table.identity(3), SIXTY_ONE)):
                self.check_error(InvalidOperation, KEEPS_NOTHING, call, first, second)
            for first, second in ((SIXTY_ONE, F), (F, SIXTY_ONE), (SIXTY_ONE, SIXTY_ONE),
                                  (Table.identity(2, roots=61), Table.identity(2))):
                self.check_error(TooMany, 60, call, first, second)


if __name__ == "__main__":
    unittest.main()
