"""[9.1], [9.2] and the functions of prefixtable.graphs.closed."""

import unittest

from prefixtable.errors import InvalidOperation, InvalidTable, TooMany
from prefixtable.graphs import closed
from prefixtable.graphs.closed import closed_graph, is_graph
from prefixtable.tables.table import Table
from graphs import drawn_tables, plain_closed, plain_graph, some_graphs
from small import NOT_SQUARE
from support import KEEPS_NOTHING, OTHER_VALUES, Case, changed
from tables import FLIP, LAST, NO_TABLES, F, G
from test_codes import comb_code
from test_regions import SIXTY_ONE

M, S = ("merge", (0, "")), ("split", (0, ""))
M1, S1 = ("merge", (1, "")), ("split", (1, ""))
FLIP_GRAPH = (2, (M, S), ((M, 0, S, 0, 1), (S, 0, M, 1, 0), (S, 1, M, 0, 0)), ())
# A split and a merge with a loop of edges of length 0 beside an edge of another length.
TURNED = (2, (M, S), ((M, 0, M, 1, 2), (S, 0, M, 0, 0), (S, 1, S, 0, 1)), ((1, 5000), (4, 1)))
TREE = (2, (M, M1, S, S1), ((M, 0, M, 0, 1), (M1, 0, M, 1, 0), (S, 0, S, 0, 1), (S, 1, S1, 0, 0), (S1, 0, M1, 1, 0),
                            (S1, 1, M1, 0, 0)), ())


class ExamplesTest(Case):

    def test_printed_examples(self):
        self.assertEqual(closed_graph(FLIP), FLIP_GRAPH)
        self.assertEqual(closed_graph(Table(2, ((0, ""), (1, "")), ((1, ""), (0, "")))), (2, (), (), ((2, 1),)))
        self.assertEqual(closed.MAX_DRAWN, 60)


class ClosedGraphTest(Case):

    def test_graphs_that_were_followed_by_hand(self):
        m, s = ("merge", (0, "1")), ("split", (0, "0"))
        self.assertEqual(closed_graph(G), (2, (M, m, S, s), (
            (M, 0, S, 0, 1), (m, 0, M, 1, 0), (S, 0, s, 0, 0), (S, 1, m, 1, 0), (s, 0, M, 0, 0), (s, 1, m, 0, 0)), ()))
        table = Table(3, ((0, "0"), (1, "1")), ((0, "1"), (0, "")), ((0, "2"), (1, "0")), ((1, ""), (1, "2")))
        self.assertEqual(closed_graph(table), (3, (M1, S), (
            (M1, 0, M1, 2, 1), (S, 0, M1, 1, 0), (S, 1, S, 0, 1), (S, 2, M1, 0, 0)), ()))
        # The edge from the split at 0 to the merge at 1 passes the roots 3 and 2; the roots 4, 5 and 6 are passed by none.
        table = Table(4, ((0, "0"), (0, "")), ((0, "1"), (1, "3")), ((0, "2"), (3, "")), ((0, "3"), (1, "0")),
                      ((1, ""), (1, "1")), ((2, ""), (1, "2")), ((3, ""), (2, "")), ((4, ""), (5, "")),
                      ((5, ""), (4, "")), ((6, ""), (6, "")))
        self.assertEqual(closed_graph(table), (4, (M1, S), (
            (M1, 0, M1, 1, 1), (S, 0, S, 0, 1), (S, 1, M1, 3, 0), (S, 2, M1, 2, 2), (S, 3, M1, 0, 0)),
            ((1, 1), (2, 1))))
        rows = [((0, digit), (0, image)) for digit, image in zip("01234", "43012")] + [((1, ""), (1, ""))]
        self.assertEqual(closed_graph(Table(5, *rows)), (5, (M, S), (
            (M, 0, S, 0, 1), (S, 0, M, 4, 0), (S, 1, M, 3, 0), (S, 2, M, 0, 0), (S, 3, M, 1, 0), (S, 4, M, 2, 0)),
            ((1, 1),)))

    def test_all_kinds_of_tables(self):
        for table in drawn_tables(1, 400):
            graph = closed_graph(table)
            self.assertEqual(graph, plain_closed(table))
            self.assertTrue(plain_graph(graph))
            self.assertIs(is_graph(graph), True)
            lengths = sum(edge[4] for edge in graph[2]) + sum(length * count for length, count in graph[3])
            self.assertEqual(lengths, table.left_roots)
            kinds = [kind for kind, _ in graph[1]]
            self.assertEqual([kinds.count("merge"), kinds.count("split")],
                             [(len(table) - table.left_roots) // (table.base - 1)] * 2)

    def test_loops_of_roots(self):
        images = (1, 2, 0, 4, 3, 5, 7, 6, 8)
        table = Table(3, *[((root, ""), (image, "")) for root, image in enumerate(images)])
        self.assertEqual(closed_graph(table), (3, (), (), ((1, 2), (2, 2), (3, 1))))
        roots = tuple(((root, ""), (root, "")) for root in range(60))
        self.assertEqual(closed_graph(Table.of(2, roots)), (2, (), (), ((1, 60),)))
        table = Table(2, ((0, ""), (2, "")), ((1, "0"), (1, "1")), ((1, "1"), (1, "0")), ((2, ""), (0, "")))
        self.assertEqual(closed_graph(table)[3], ((2, 1),))

    def test_sizes(self):
        code = comb_code(2, 60)
        self.assertEqual(len(closed_graph(Table(2, *zip(code, code[1:] + code[:1])))[1]), 118)
        self.check_error(TooMany, 60, closed_graph, SIXTY_ONE)
        self.check_error(TooMany, 60, closed_graph, Table.identity(2, roots=61))

    def test_errors(self):
        for value in NO_TABLES:
            self.check_error(InvalidTable, KEEPS_NOTHING, closed_graph, value)
        for table in NOT_SQUARE + [Table(2, *[((root, ""), (root, "")) for root in range(70)],
                                         ((70, "0"), (70, "")), ((70, "1"), (71, "")))]:
            self.check_error(InvalidOperation, KEEPS_NOTHING, closed_graph, table)


class IsGraphTest(Case):

    def test_right_graphs(self):
        for graph in some_graphs(2, 100) + [FLIP_GRAPH, TURNED, TREE, (5, (), (), ())]:
            self.assertTrue(plain_graph(graph), graph)
            self.assertIs(is_graph(graph), True)
        for loops in (((1, 1),), ((1, 5000),), ((1, 1), (2, 1)), ((10 ** 59, 3),)):
            self.assertIs(is_graph((2, (), (), loops)), True)
        self.assertIs(is_graph(FLIP_GRAPH[:2] + (((M, 0, S, 0, 10 ** 59),) + FLIP_GRAPH[2][1:], ())), True)
        self.assertIs(is_graph((2, (("merge", (4999, "")), ("split", (0, "01" * 800))), (), ())), False)

    def test_changed_graphs(self):
        for graph in (FLIP_GRAPH, TURNED, closed_graph(Table(3, ((0, "0"), (0, "1")), ((0, "1"), (0, "2")),
                                                             ((0, "2"), (0, "0"))))):
            for value in changed(graph):
                self.assertIs(is_graph(value), plain_graph(value), value)

    def test_parts_left_out_doubled_or_turned(self):
        for graph in (TREE, closed_graph(F), closed_graph(LAST), closed_graph(G)):
            base, nodes, edges, loops = graph
            for row, put in ((nodes, lambda told: (base, told, edges, loops)),
                             (edges, lambda told: (base, nodes, told, loops))):
                for at in range(len(row)):
                    for told in (row[:at] + row[at + 1:], row[:at] + row[at:at + 1] + row[at:], row[::-1],
                                 row[at + 1:] + row[:at + 1]):
                        value = put(told)
                        self.assertIs(is_graph(value), plain_graph(value))
                        self.assertIs(is_graph(value), told == row)
                self.assertIs(is_graph(put(list(row))), False)

    def test_edges_with_one_change(self):
        for graph in (TREE, FLIP_GRAPH, TURNED, closed_graph(F)):
            base, nodes, edges, loops = graph
            for at, edge in enumerate(edges):
                others = [edge[:place] + (other,) + edge[place + 1:] for place in range(5)
                          for other in nodes + (-1, 0, 1, 2, 3, True, False, None, "0", ("split", (3, "")))]
                for other in others:
                    value = (base, nodes, tuple(sorted(edges[:at] + (other,) + edges[at + 1:], key=repr)), loops)
                    self.assertIs(is_graph(value), plain_graph(value))
                    value = (base, nodes, edges[:at] + (other,) + edges[at + 1:], loops)
                    self.assertIs(is_graph(value), plain_graph(value))

    def test_exits_and_entries_without_an_edge_or_with_two(self):
        for nodes, edges in (((S,), ((S, 0, S, 0, 1),)), ((S,), ((S, 0, S, 0, 1), (S, 1, S, 0, 1))),
                             ((M,), ((M, 0, M, 0, 1),)), ((M,), ((M, 0, M, 0, 1), (M, 0, M, 1, 1))),
                             ((M, S), TURNED[2][:2]), ((M, S), TURNED[2][1:]), ((M,), ()), ((S,), ()),
                             ((M, S), TURNED[2] + ((S, 1, S, 0, 2),)), ((), TURNED[2]),
                             ((M, M1, S), TURNED[2]), ((M, M1, S), TURNED[2] + ((M1, 0, M1, 0, 1),))):
            for told in (edges, tuple(sorted(edges))):
                self.assertFalse(plain_graph((2, nodes, told, ())))
                self.assertIs(is_graph((2, nodes, told, ())), False)

    def test_cycles_of_length_zero(self):
        for graph in (TREE, FLIP_GRAPH, closed_graph(F), closed_graph(LAST), closed_graph(G * F)):
            base, nodes, edges, loops = graph
            told = [edge[:4] + (0,) for edge in edges]
            self.assertIs(is_graph((base, nodes, tuple(told), loops)), False)
            for at in range(len(edges)):
                value = (base, nodes, tuple(told[:at]) + (edges[at][:4] + (3,),) + tuple(told[at + 1:]), loops)
                self.assertIs(is_graph(value), plain_graph(value))
        one = (2, (M, S), ((M, 0, M, 0, 0), (S, 0, M, 1, 1), (S, 1, S, 0, 1)), ())
        self.assertIs(is_graph(one), False)
        self.assertIs(is_graph(one[:2] + (((M, 0, M, 0, 1),) + one[2][1:], ())), True)

    def test_loops(self):
        for loops in (((0, 1),), ((-1, 1),), ((1, 0),), ((1, 5001),), ((1, -1),), ((2, 1), (1, 1)), ((1, 1), (1, 2)),
                      ((1, 1), (1, 1)), ((True, 1),), ((1, True),), ((1,),), ((1, 1, 1),), ([1, 1],), [(1, 1)], (1, 1),
                      ((1, "1"),), ((None, 1),), None, 0, "", {}, ({1: 1},), ((1, 1), None)):
            self.assertIs(is_graph((2, (), (), loops)), False, loops)

    def test_many_nodes(self):
        nodes = tuple([("merge", (root, "")) for root in range(1500)] + [("split", (root, "")) for root in range(1500)])
        edges = [(("split", (root, "")), door, ("merge", (root, "")), door, 0) for root in range(1500) for door in (0, 1)]
        edges = edges + [(("merge", (root, "")), 0, ("split", ((root + 1) % 1500, "")), 0, 0) for root in range(1500)]
        self.assertIs(is_graph((2, nodes, tuple(sorted(edges)), ())), False)
        edges[-1] = edges[-1][:4] + (1,)
        self.assertIs(is_graph((2, nodes, tuple(sorted(edges)), ())), True)

    def test_values_of_other_kinds(self):
        for value in OTHER_VALUES + [F, (F, F, F, F), (2,), (2, (), ()), (2, (), (), (), ()), [2, (), (), ()],
                                     (True, (), (), ()), (1, (), (), ()), (6, (), (), ()), (2, [], (), ()),
                                     (2, (), [], ()), (2, {}, (), ()), (2, (), {}, ()), (2, None, None, None),
                                     (2, ((M,),), (), ()), (2, (F,), (), ()), (2, (("merge", [0, ""]),), (), ())]:
            self.assertIs(is_graph(value), False)
        self.assertIs(is_graph((2, (M, S), ((("merge", (False, "")), 0, S, 0, 1),) + FLIP_GRAPH[2][1:], ())), False)
        self.assertIs(is_graph((2, (("merge", (0, "")), ("split", (False, ""))), FLIP_GRAPH[2], ())), False)
        self.assertIs(is_graph((2, (M, ("split", (5000, ""))), (), ())), False)


if __name__ == "__main__":
    unittest.main()
