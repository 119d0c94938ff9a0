"""[9.3] to [9.5] and the functions of prefixtable.graphs.moves."""

import math
import random
import unittest

from prefixtable.errors import InvalidGraph, InvalidMove
from prefixtable.graphs.closed import closed_graph, is_graph
from prefixtable.graphs.matching import matching
from prefixtable.graphs.moves import (
    after_all_moves, after_move, after_moves, is_reduced, possible_moves, reduction, reversed_graph)
from prefixtable.orders.orders import cycles_of, least_permuted_code
from prefixtable.tables.table import Table
from graphs import (
    chance_reduction, drawn_tables, plain_after, plain_graph, plain_moves, some_graphs)
from small import small_tables
from support import KEEPS_NOTHING, OTHER_VALUES, Case, changed
from tables import FLIP, LAST, F, G
from test_graphs import FLIP_GRAPH, M1, S1, TREE, TURNED, M, S

NO_GRAPHS = OTHER_VALUES + [F, (2,), [2, (), (), ()], (2, (), (), ((0, 1),)), FLIP_GRAPH[:3],
                            (2, FLIP_GRAPH[1], FLIP_GRAPH[2][1:], ()), (2, (), (), ((1, 5001),))]
NO_MOVES = OTHER_VALUES + [F, ("cancel",), ("fold",), ("fold", 0), ("fold", -1), ("fold", True), ("fold", "1"),
                           ("fold", 1, 1), ("cancel", (0, "")), ["cancel", (0, ""), (0, "")], "fold", ("fold", None),
                           ("cancel", [0, ""], (0, "")), ("cancel", (0, ""), (0, "2")), ("cancel", (5000, ""), (0, "")),
                           ("cancel", (False, ""), (0, "")), ("cancel", (0, ""), (False, "")), ("cancel", None, None),
                           ("collapse", (False, ""), (0, "")), ("merge", (0, ""), (0, "")), (("fold", 1),)]
GRAPHS = some_graphs(3, 150)
# Three digits, of which one goes straight through the nodes, and two pass them one after another.
CHAIN = (3, (M, S), ((M, 0, S, 0, 5), (S, 0, M, 2, 1), (S, 1, M, 1, 2), (S, 2, M, 0, 4)), ())


def split_and_merge(base, lengths, entries):
    """Return a graph in which all exits of a split lead to a merge, and its exit to the split."""
    edges = [(S, door, M, entry, length) for door, (entry, length) in enumerate(zip(entries, lengths))]
    return base, (M, S), tuple([(M, 0, S, 0, 1)] + edges), ()


class ExamplesTest(Case):

    def test_printed_examples(self):
        cancel = ("cancel", (0, ""), (0, ""))
        self.assertEqual([list(possible_moves(closed_graph(FLIP))), after_move(closed_graph(FLIP), cancel)],
                         [[cancel], (2, (), (), ((2, 1),))])
        self.assertEqual(after_move(closed_graph(G), cancel)[2], (
            (("merge", (0, "1")), 0, ("merge", (0, "1")), 1, 1), (("split", (0, "0")), 0, ("split", (0, "0")), 0, 1),
            (("split", (0, "0")), 1, ("merge", (0, "1")), 0, 0)))
        self.assertEqual(after_moves((2, (), (), ((3, 5),)), ("fold", 3), ("fold", 3)), (2, (), (), ((3, 3),)))
        self.assertEqual([is_reduced(closed_graph(G)), reduction(closed_graph(G)),
                          after_all_moves(closed_graph(F), reduction(closed_graph(F)))],
                         [False, (cancel,), (2, (), (), ((5, 1),))])


class PossibleMovesTest(Case):

    def test_all_possible_moves(self):
        kinds = []
        for graph in GRAPHS + [FLIP_GRAPH, TURNED, TREE, CHAIN]:
            told = list(possible_moves(graph))
            kinds.extend(move[0] for move in told)
            self.assertEqual(told, plain_moves(graph))
            self.assertIs(is_reduced(graph), not told)
        self.assertEqual(sorted(set(kinds)), ["cancel", "collapse", "fold"])

    def test_each_kind_just_possible_and_not(self):
        for base in (2, 3, 4, 5):
            digits = tuple(range(base))
            collapse = ("collapse", (0, ""), (0, ""))
            self.assertEqual(list(possible_moves(split_and_merge(base, (3,) * base, digits))),
                             [("cancel", (0, ""), (0, "")), collapse])
            for graph in (split_and_merge(base, (3,) * (base - 1) + (4,), digits),
                          split_and_merge(base, (3,) * base, digits[::-1])):
                self.assertEqual(list(possible_moves(graph)), [("cancel", (0, ""), (0, ""))])
                self.check_error(InvalidMove, KEEPS_NOTHING, after_move, graph, collapse)
            for count, folds in ((base - 1, []), (base, [("fold", 7)]), (base + 1, [("fold", 7)]), (5000, [("fold", 7)])):
                self.assertEqual(list(possible_moves((base, (), (), ((7, count),)))), folds)
        self.assertEqual(list(possible_moves(TURNED)), [("fold", 1)])
        self.assertEqual(list(possible_moves(TREE)), [])

    def test_in_part_and_twice_at_once(self):
        graph = (2, (), (), ((1, 2), (2, 3), (5, 9)))
        one, other = possible_moves(graph), possible_moves(graph)
        self.assertEqual([next(one), next(one), next(other)], [("fold", 1), ("fold", 2), ("fold", 1)])
        self.assertEqual([list(one), list(other)], [[("fold", 5)], [("fold", 2), ("fold", 5)]])

    def test_order_of_moves(self):
        told = list(possible_moves(closed_graph(LAST * F)))
        self.assertEqual(told, sorted(told))
        graph = split_and_merge(2, (3, 3), (0, 1))[:3] + (((2, 2), (10, 2)),)
        self.assertEqual(list(possible_moves(graph)),
                         [("cancel", (0, ""), (0, "")), ("collapse", (0, ""), (0, "")), ("fold", 2), ("fold", 10)])


class AfterMovesTest(Case):

    def test_each_move_against_the_definition(self):
        for graph in GRAPHS + [FLIP_GRAPH, TURNED, CHAIN]:
            for move in plain_moves(graph):
                told = after_move(graph, move)
                self.assertEqual(told, plain_after(graph, move))
                self.assertEqual([after_moves(graph, move), after_all_moves(graph, (move,))], [told, told])
                self.assertTrue(plain_graph(told))
            self.assertEqual([after_moves(graph), after_all_moves(graph, ())], [graph, graph])

    def test_chains_that_pass_the_nodes_several_times(self):
        cancel = ("cancel", (0, ""), (0, ""))
        # All edges from the split lead to the merge: 0 to 2 to 0, and 1 to itself.
        self.assertEqual(after_move(CHAIN, cancel), (3, (), (), ((7, 1), (15, 1))))
        # One edge comes from aside to 0, passes to 1 and to 2, and leaves.
        graph = (3, (M, M1, S, S1), (
            (M, 0, S, 0, 10), (M1, 0, M, 0, 1), (S, 0, M, 1, 2), (S, 1, M, 2, 3), (S, 2, S1, 0, 4),
            (S1, 0, M1, 0, 0), (S1, 1, M1, 1, 0), (S1, 2, M1, 2, 7)), ((1, 2),))
        self.assertTrue(plain_graph(graph))
        self.assertEqual(after_move(graph, cancel), (3, (M1, S1), (
            (M1, 0, S1, 0, 40), (S1, 0, M1, 0, 0), (S1, 1, M1, 1, 0), (S1, 2, M1, 2, 7)), ((1, 2),)))
        # Beside one way that leaves, another one closes.
        graph = (3, (M, M1, S, S1), (
            (M, 0, S, 0, 10), (M1, 0, M, 2, 1), (S, 0, M, 1, 2), (S, 1, M, 0, 3), (S, 2, S1, 0, 4),
            (S1, 0, M1, 0, 0), (S1, 1, M1, 1, 0), (S1, 2, M1, 2, 7)), ((25, 2),))
        self.assertEqual(after_move(graph, cancel), (3, (M1, S1), (
            (M1, 0, S1, 0, 15), (S1, 0, M1, 0, 0), (S1, 1, M1, 1, 0), (S1, 2, M1, 2, 7)), ((25, 3),)))

    def test_collapse_of_one_edge_and_of_two(self):
        for base in (2, 3, 4, 5):
            graph = split_and_merge(base, (3,) * base, tuple(range(base)))
            self.assertEqual(after_move(graph, ("collapse", (0, ""), (0, ""))), (base, (), (), ((4, 1),)))
        graph = (2, (M, M1, S, S1), ((M, 0, M1, 0, 7), (M1, 0, M1, 1, 1), (S, 0, M, 0, 3), (S, 1, M, 1, 3),
                                     (S1, 0, S, 0, 5), (S1, 1, S1, 0, 1)), ((4, 1),))
        self.assertEqual(after_move(graph, ("collapse", (0, ""), (0, ""))), (
            2, (M1, S1), ((M1, 0, M1, 1, 1), (S1, 0, M1, 0, 15), (S1, 1, S1, 0, 1)), ((4, 1),)))

    def test_folds(self):
        for base in (2, 3, 4, 5):
            for count in range(base, 3 * base):
                told = after_move((base, (), (), ((2, 1), (7, count))), ("fold", 7))
                self.assertEqual(told, (base, (), (), ((2, 1), (7, count - base + 1))))
            self.assertEqual(after_move((base, (), (), ((7, 5000),)), ("fold", 7))[3], ((7, 5001 - base),))
            self.check_error(InvalidMove, KEEPS_NOTHING, after_move, (base, (), (), ((7, base - 1),)), ("fold", 7))
            self.check_error(InvalidMove, KEEPS_NOTHING, after_move, (base, (), (), ((7, base),)), ("fold", 6))

    def test_moves_that_earlier_ones_make_possible(self):
        one = split_and_merge(2, (3, 3), (0, 1))
        cancel, collapse = ("cancel", (0, ""), (0, "")), ("collapse", (0, ""), (0, ""))
        self.assertEqual(after_moves(one, cancel, ("fold", 4)), (2, (), (), ((4, 1),)))
        self.assertEqual(after_moves(one, collapse), (2, (), (), ((4, 1),)))
        for moves in ((("fold", 4), cancel), (cancel, collapse), (collapse, cancel), (cancel, cancel),
                      (collapse, ("fold", 4)), (cancel, ("fold", 4), ("fold", 4)), (cancel, None)):
            self.check_error(InvalidMove, KEEPS_NOTHING, after_all_moves, one, moves)
            self.check_error(InvalidMove, KEEPS_NOTHING, after_moves, one, *moves)

    def test_counts_beyond_the_limit(self):
        one = split_and_merge(2, (3, 3), (0, 1))[:3] + (((4, 5000),),)
        cancel, collapse = ("cancel", (0, ""), (0, "")), ("collapse", (0, ""), (0, ""))
        self.assertEqual(after_move(one, cancel), (2, (), (), ((4, 5002),)))
        self.assertEqual(after_move(one, collapse), (2, (), (), ((4, 5001),)))
        self.assertIs(is_graph(after_move(one, cancel)), False)
        self.assertEqual(after_moves(one, cancel, ("fold", 4), ("fold", 4)), (2, (), (), ((4, 5000),)))
        self.check_error(InvalidGraph, KEEPS_NOTHING, after_move, after_move(one, cancel), ("fold", 4))
        moves = reduction(one)
        self.assertEqual(after_all_moves(one, moves), (2, (), (), ((4, 1),)))
        self.assertEqual(len(reduction((2, (), (), ((3, 5000), (4, 5000))))), 9998)

    def test_errors(self):
        calls = [lambda graph: next(possible_moves(graph)), lambda graph: after_move(graph, None), after_moves,
                 lambda graph: after_moves(graph, None), lambda graph: after_all_moves(graph, None), reduction,
                 reversed_graph]
        for call in calls:
            for value in NO_GRAPHS:
                self.check_error(InvalidGraph, KEEPS_NOTHING, call, value)
        for graph in (FLIP_GRAPH, TURNED, TREE, closed_graph(F)):
            for move in NO_MOVES:
                self.check_error(InvalidMove, KEEPS_NOTHING, after_move, graph, move)
                self.check_error(InvalidMove, KEEPS_NOTHING, after_moves, graph, move)
                self.check_error(InvalidMove, KEEPS_NOTHING, after_all_moves, graph, (move,))
        for moves in (None, [("cancel", (0, ""), (0, ""))], 3, "fold", {}, ("cancel", (0, ""), (0, ""))):
            self.check_error(InvalidMove, KEEPS_NOTHING, after_all_moves, FLIP_GRAPH, moves)

    def test_changed_moves(self):
        graph = split_and_merge(2, (3, 3), (0, 1))[:3] + (((1, 2), (4, 7)),)
        for right in (("cancel", (0, ""), (0, "")), ("collapse", (0, ""), (0, "")), ("fold", 1), ("fold", 4)):
            self.assertEqual(after_move(graph, right), plain_after(graph, right))
            for move in changed(right):
                if move in plain_moves(graph) and repr(move) in [repr(told) for told in plain_moves(graph)]:
                    self.assertEqual(after_move(graph, move), plain_after(graph, move))
                else:
                    self.check_error(InvalidMove, KEEPS_NOTHING, after_move, graph, move)


class ReductionTest(Case):

    def check_reduced(self, graph):
        self.assertIs(is_reduced(graph), True)
        for source, _, target, _, _ in graph[2]:
            self.assertFalse(source[0] == "merge" and target[0] == "split")
        kinds = [kind for kind, _ in graph[1]]
        self.assertEqual(kinds.count("merge"), kinds.count("split"))

    def test_reductions(self):
        for table in drawn_tables(4, 200):
            graph = closed_graph(table)
            moves = reduction(graph)
            self.assertIsInstance(moves, tuple)
            self.check_reduced(after_all_moves(graph, moves))
            if not moves:
                self.assertIs(is_reduced(graph), True)
        for graph in GRAPHS:
            self.check_reduced(after_all_moves(graph, reduction(graph)))

    def test_reductions_in_other_orders_match(self):
        chance = random.Random(5)
        for table in drawn_tables(5, 60, 30):
            graph = closed_graph(table)
            told = after_all_moves(graph, reduction(graph))
            for _ in range(3):
                moves, other = chance_reduction(chance, graph)
                self.check_reduced(other)
                self.assertEqual(after_all_moves(graph, moves), other)
                self.assertIsNotNone(matching(told, other))
                self.assertIsNotNone(matching(other, told))

    def test_sums_of_lengths(self):
        for table in drawn_tables(6, 150):
            roots = table.left_roots
            most = roots * table.base ** ((len(table) - roots) // (table.base - 1))
            graph = closed_graph(table)
            for move in reduction(graph):
                graph = after_move(graph, move) if len(graph[1]) < 40 else plain_after(graph, move)
                lengths = sum(edge[4] for edge in graph[2]) + sum(length * count for length, count in graph[3])
                self.assertLessEqual(lengths, most)

    def test_finite_orders(self):
        for table in small_tables(7, 200):
            graph = closed_graph(table)
            graph = after_all_moves(graph, reduction(graph))
            code = least_permuted_code(table)
            self.assertEqual(graph[1] == (), code is not None)
            if code is not None:
                order = math.lcm(*[len(cycle) for cycle in cycles_of(table, code)])
                self.assertEqual(math.lcm(*[length for length, _ in graph[3]]), order)

    def test_large_graphs(self):
        many = 1500
        nodes = tuple([("merge", (root, "")) for root in range(many)] + [("split", (root, "")) for root in range(many)])
        edges = [(("split", (root, "")), door, ("merge", (root, "")), door, 0) for root in range(many) for door in (0, 1)]
        edges = edges + [(("merge", (root, "")), 0, ("split", ((root + 1) % many, "")), 0, 1) for root in range(many)]
        graph = (2, nodes, tuple(sorted(edges)), ())
        self.assertEqual(after_all_moves(graph, reduction(graph))[1:], ((), (), ((many, 1),)))

    def test_is_reduced(self):
        for value in NO_GRAPHS + changed(TURNED)[::7] + changed(TREE)[::7]:
            self.assertIs(is_reduced(value), plain_graph(value) and not plain_moves(value))
        self.assertEqual([is_reduced(TREE), is_reduced(TURNED), is_reduced(FLIP_GRAPH)], [True, False, False])
        self.assertEqual([is_reduced((2, (), (), ())), is_reduced((5, (), (), ((1, 4),)))], [True, True])
        self.assertEqual([is_reduced((2, (), (), ((1, 2),))), is_reduced((5, (), (), ((1, 5),)))], [False, False])


class ReversedTest(Case):

    def test_reversed_graphs(self):
        self.assertEqual(reversed_graph(TURNED), (2, (M, S), ((M, 0, M, 1, 1), (S, 0, M, 0, 0), (S, 1, S, 0, 2)),
                                                  ((1, 5000), (4, 1))))
        for graph in GRAPHS + [FLIP_GRAPH, TURNED, TREE, CHAIN]:
            told = reversed_graph(graph)
            self.assertIs(is_graph(told), True)
            self.assertEqual(reversed_graph(told), graph)
            self.assertEqual(told[3], graph[3])

    def test_inverse_tables(self):
        for table in drawn_tables(8, 200):
            self.assertEqual(reversed_graph(closed_graph(table)), closed_graph(~table))

    def test_roots_and_kinds(self):
        graph = reversed_graph((2, (M1, S), ((M1, 0, M1, 1, 1), (S, 0, M1, 0, 0), (S, 1, S, 0, 1)), ()))
        self.assertEqual(graph, (2, (M, S1), ((M, 0, M, 1, 1), (S1, 0, M, 0, 0), (S1, 1, S1, 0, 1)), ()))


if __name__ == "__main__":
    unittest.main()
