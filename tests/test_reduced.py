"""[11.2], [11.3] and the functions of prefixtable.recodings.reduced."""

import itertools
import random
import unittest

from prefixtable.base.streams import make_stream
from prefixtable.errors import InvalidNumber, InvalidOperation, InvalidTable, TooMany
from prefixtable.graphs.closed import closed_graph
from prefixtable.graphs.matching import matching
from prefixtable.graphs.moves import after_all_moves, is_reduced, possible_moves, reduction
from prefixtable.recodings.reduced import (
    is_reduced_form, is_reduced_table, recoded, reduced_form, root_expansion, root_gathering)
from prefixtable.tables.building import beside, in_order, within
from prefixtable.tables.table import Table
from changes import chance_change, plain_leads, plain_recoded
from graphs import drawn_tables, plain_moves, with_more_roots
from small import LONG, LONG_GROWTH, LONG_THREE, NOT_SMALL, NOT_SQUARE, TEN, TWO_ROOTS, WORD_GROWTH, small_tables
from support import KEEPS_NOTHING, OTHER_VALUES, Case, chance_streams, changed
from tables import FLIP, GATHER, NO_TABLES, SPLIT, F, G
from test_circles import circle_of_roots, circle_table
from test_codes import comb_code
from test_regions import SIXTY_ONE
from test_words import NO_BASES, NO_ROOTS


def shuffled(many, seed=1):
    """Return a table of so many rows that takes the prefixes of a comb to one another in some order."""
    code = comb_code(2, many)
    images = list(code)
    while any(one == other for one, other in zip(code, images)):
        random.Random(seed).shuffle(images)
        seed = seed + 1
    return Table(2, *zip(code, images))


def exchange(base, images):
    """Return the table that takes the roots 0, 1, .. to these roots."""
    return Table(base, *[((root, ""), (image, "")) for root, image in enumerate(images)])


class ExamplesTest(Case):

    def test_printed_examples(self):
        self.assertEqual([root_expansion(2, 2, 0).rows, root_gathering(2, 3, (2, 0)).rows],
                         [(((0, "0"), (0, "")), ((0, "1"), (1, "")), ((1, ""), (2, ""))),
                          (((0, ""), (1, "1")), ((1, ""), (0, "")), ((2, ""), (1, "0")))])
        h, g = reduced_form(FLIP)
        self.assertEqual([is_reduced_table(FLIP), g.right_roots, h * FLIP == g * h], [False, 2, True])
        self.assertEqual(g.rows, (((0, ""), (1, "")), ((1, ""), (0, ""))))
        self.assertIs(is_reduced_form(FLIP, (root_expansion(2, 1, 0), g)), True)


class RootsTest(Case):

    def test_expansions(self):
        for base in (2, 3, 4, 5):
            for roots in (1, 2, 5):
                for root in range(roots):
                    table = root_expansion(base, roots, root)
                    self.assertEqual([table.base, table.left_roots, table.right_roots],
                                     [base, roots, roots + base - 1])
                    for other, head, period in chance_streams(random.Random(root), base, roots, 20):
                        digits = head + period
                        told = make_stream(base, other + (base - 1) * (other > root), head, period)
                        if other == root:
                            told = make_stream(base, root + int(digits[0]), digits[1:], period)
                        self.assertEqual(table((other, head, period)), told)

    def test_gatherings(self):
        for base in (2, 3, 4, 5):
            for roots in (base, base + 1, base + 2):
                for chosen in itertools.islice(itertools.permutations(range(roots), base), 0, None, 7):
                    table = root_gathering(base, roots, chosen)
                    self.assertEqual([table.base, table.left_roots, table.right_roots],
                                     [base, roots, roots - base + 1])
                    rest = [root for root in range(roots) if root not in chosen]
                    for root, head, period in chance_streams(random.Random(roots), base, roots, 10):
                        told = make_stream(base, 0 if root in chosen else rest.index(root), head, period)
                        if root in chosen:
                            told = make_stream(base, roots - base, str(chosen.index(root)) + head, period)
                        self.assertEqual(table((root, head, period)), told)

    def test_gathering_of_an_expansion(self):
        for base in (2, 3, 4, 5):
            for roots in (1, 3):
                told = root_gathering(base, roots + base - 1, tuple(range(roots - 1, roots + base - 1)))
                self.assertEqual(told * root_expansion(base, roots, roots - 1), Table.identity(base, roots=roots))

    def test_many_roots(self):
        for base, most in ((2, 4999), (3, 4998), (5, 4996)):
            for root in (0, 2000, most - 1):
                table = root_expansion(base, most, root)
                self.assertEqual([len(table), table.right_roots], [5000, 5000])
            for roots in (most + 1, 5000):
                self.check_error(TooMany, 5000, root_expansion, base, roots, 17)
            table = root_gathering(base, 5000, tuple(range(4999, 4999 - base, -1)))
            self.assertEqual([len(table), table[(4999, "")]], [5000, (5000 - base, "0")])
            self.check_error(InvalidNumber, 5001, root_expansion, base, 5001, 0)
            self.check_error(InvalidNumber, 5000, root_expansion, base, 5000, 5000)
            self.check_error(InvalidNumber, 5001, root_gathering, base, 5001, None)

    def test_errors(self):
        for call in (root_expansion, root_gathering):
            for base in NO_BASES:
                self.check_error(InvalidNumber, base, call, base, None, None)
            for roots in NO_ROOTS:
                self.check_error(InvalidNumber, roots, call, 2, roots, None)
        for root in OTHER_VALUES + [(0,), F]:
            if root is False or root is True or root not in (0, 1, 2):
                self.check_error(InvalidNumber, root, root_expansion, 3, 3, root)
        for root in (-1, 3, 4, 4999, True, False, "0", None, (0,)):
            self.check_error(InvalidNumber, root, root_expansion, 2, 3, root)
        wrong = [(0,), (0, 1, 2), (0, 0), (0, 1, 1), (0, 4), (-1, 0), (0, True), (False, 1), [0, 1], (0, "1"), (0, None), "01",
                 (0, (1,)), (0, [1]), (0, {}), {0: 1, 1: 0}, (F, G)]
        for chosen in OTHER_VALUES + wrong:
            self.check_error(InvalidNumber, chosen, root_gathering, 2, 4, chosen)
        self.check_error(InvalidNumber, (0, 1), root_gathering, 3, 4, (0, 1))
        self.check_error(InvalidNumber, (0, 1), root_gathering, 2, 1, (0, 1))
        self.check_error(InvalidNumber, (), root_gathering, 2, 1, ())


class RecodedTest(Case):

    def test_recodings_to_as_many_more_and_fewer_roots(self):
        chance = random.Random(5)
        kinds = set()
        for table in small_tables(51, 120) + drawn_tables(51, 30, 25):
            for _ in range(2):
                change = chance_change(chance, table.base, table.left_roots, chance.randrange(1, 12))
                told = recoded(table, change)
                self.assertEqual(told.rows, plain_recoded(table, change))
                self.assertEqual(told, change * table * ~change)
                self.assertEqual([told.left_roots, told.right_roots, told.base],
                                 [change.right_roots, change.right_roots, table.base])
                self.assertEqual(recoded(told, ~change), table)
                kinds.add((change.right_roots > table.left_roots) - (change.right_roots < table.left_roots))
        self.assertEqual(kinds, {-1, 0, 1})
        self.assertEqual(recoded(FLIP, SPLIT), exchange(2, (1, 0)))

    def test_products_on_the_way_with_many_rows(self):
        change, table = within(shuffled(3000), 1, (0, "0")), within(shuffled(3000), 1, (0, "1"))
        self.check_error(TooMany, 5000, lambda: change * table)
        self.assertEqual(recoded(table, change), table)
        self.assertEqual(recoded(change, table), change)
        flipped = within(shuffled(3000), 1, (0, "0"))
        self.assertEqual(recoded(table, FLIP), flipped)

    def test_results_with_many_rows(self):
        code = comb_code(2, 5000)
        turned = Table(2, *zip(code, code[1:] + code[:1]))
        change = within(shuffled(2499), 1, (0, "0"))
        self.assertEqual(len(recoded(FLIP, change)), 2 * 2499)
        self.assertEqual(len(recoded(FLIP, within(shuffled(2500), 1, (0, "0")))), 5000)
        self.check_error(TooMany, 5000, recoded, FLIP, within(shuffled(2501), 1, (0, "0")))
        self.check_error(TooMany, 5000, recoded, FLIP, within(shuffled(4900), 1, (0, "0")))
        self.check_error(TooMany, 5000, recoded, turned, FLIP * within(shuffled(30), 1, (0, "0")) * F)

    def test_errors(self):
        for value in NO_TABLES:
            self.check_error(InvalidTable, KEEPS_NOTHING, recoded, value, None)
            self.check_error(InvalidTable, KEEPS_NOTHING, recoded, G, value)
        for table in NOT_SQUARE:
            self.check_error(InvalidOperation, KEEPS_NOTHING, recoded, table, None)
        for change in (Table.identity(3), Table.identity(2, roots=2), ~SPLIT, GATHER):
            self.check_error(InvalidOperation, KEEPS_NOTHING, recoded, G, change)
        self.check_error(InvalidOperation, KEEPS_NOTHING, recoded, Table.identity(3, roots=3), ~GATHER)
        self.assertEqual(recoded(Table.identity(3, roots=3), GATHER), Table.identity(3))
        self.assertEqual(recoded(G, SPLIT), SPLIT * G * ~SPLIT)


class ReducedFormTest(Case):

    def check_form(self, table):
        told = reduced_form(table)
        self.assertIsInstance(told, tuple)
        h, g = told
        self.assertTrue(plain_leads(table, g, h), table.rows)
        self.assertIs(is_reduced_form(table, told), True)
        if len(g) <= 60:
            self.assertIs(is_reduced_table(g), True)
            self.assertEqual(plain_moves(closed_graph(g)), [])
            graph = after_all_moves(closed_graph(table), reduction(closed_graph(table)))
            self.assertIsNotNone(matching(graph, closed_graph(g)))

    def test_tables_of_all_kinds(self):
        kinds = set()
        tables = small_tables(52, 150)
        tables = tables + [with_more_roots(random.Random(at), table, 1 + at % 3) for at, table in enumerate(tables)]
        for table in [table for table in tables if len(table) <= 9]:
            self.check_form(table)
            words = [move[0] for move in reduction(closed_graph(table))]
            kinds.update((one, words.count(one)) for one in ("cancel", "collapse", "fold"))
        self.assertLessEqual({("cancel", 1), ("cancel", 5), ("collapse", 1), ("fold", 1), ("fold", 3)}, kinds)

    def test_tables_that_were_made_to_have_moves(self):
        base = circle_table(2, "1", 1)
        chain = Table(2, ((0, ""), (0, "1")), ((1, "0"), (1, "")), ((1, "1"), (2, "")), ((2, ""), (0, "0")))
        self.assertEqual([list(possible_moves(closed_graph(table))) for table in (base, chain)], [[], []])
        # Each expansion of the root between the split and the merge puts in a split and a merge that collapse.
        once = recoded(chain, root_expansion(2, 3, 2))
        for table, many in ((once, 1), (recoded(once, root_expansion(2, 4, 2)), 2),
                            (recoded(once, root_expansion(2, 4, 3)), 2)):
            self.assertEqual([move[0] for move in reduction(closed_graph(table))], ["collapse"] * many)
            self.check_form(table)
        for base in (2, 3, 5):
            for many in (1, 2, 3, 4, 9):
                self.check_form(Table.identity(base, roots=many))
                self.assertIs(is_reduced_table(Table.identity(base, roots=many)), many < base)
        self.check_form(circle_of_roots(9))
        self.check_form(beside(circle_of_roots(2), circle_of_roots(2), circle_of_roots(2), circle_of_roots(3)))
        self.check_form(beside(circle_of_roots(3), F))
        self.check_form(beside(TWO_ROOTS, FLIP, FLIP))

    def test_long_ones(self):
        for table, roots in ((LONG, 256), (LONG_THREE, 81), (LONG ** 2, None), (LONG_GROWTH, None)):
            if len(table) <= 9:
                self.check_form(table)
                self.assertIn(roots, (None, reduced_form(table)[1].left_roots))

    def test_reduced_tables(self):
        for table in drawn_tables(53, 200, 20) + [circle_table(3, "0112", 4), circle_of_roots(60, 3)]:
            self.assertIs(is_reduced_table(table), is_reduced(closed_graph(table)))
            self.assertIs(is_reduced_table(table), plain_moves(closed_graph(table)) == [])
        self.assertEqual([is_reduced_table(table) for table in (circle_table(2, "01", 2), Table.identity(2), G, FLIP)],
                         [True, True, False, False])

    def test_errors(self):
        for call in (is_reduced_table, reduced_form, lambda table: is_reduced_form(table, None)):
            for value in NO_TABLES:
                self.check_error(InvalidTable, KEEPS_NOTHING, call, value)
            for table in NOT_SQUARE:
                self.check_error(InvalidOperation, KEEPS_NOTHING, call, table)
            long = Table(2, *[((0, "1" * at + "0"), (at, "")) for at in range(70)], ((0, "1" * 70), (70, "")))
            self.check_error(InvalidOperation, KEEPS_NOTHING, call, long)
        for table in NOT_SMALL + [SIXTY_ONE]:
            self.check_error(TooMany, 9, reduced_form, table)
            self.assertIs(is_reduced_form(table, None), False)
        self.check_error(TooMany, 60, is_reduced_table, SIXTY_ONE)
        self.check_error(TooMany, 60, is_reduced_table, Table.identity(2, roots=61))
        self.assertIs(is_reduced_table(Table.identity(2, roots=60)), False)


class IsReducedFormTest(Case):

    def test_forms_of_others(self):
        chance = random.Random(6)
        for table in small_tables(54, 80):
            h, g = reduced_form(table)
            images = chance.sample(range(g.left_roots), g.left_roots)
            turn = exchange(table.base, images)
            right = [(turn * h, recoded(g, turn)), (h * table, g), (h * ~table, g), (g * h, g), (g * g * h, g),
                     (turn * ~g * h, recoded(g, turn))]
            for value in right:
                self.assertTrue(plain_leads(table, value[1], value[0]))
                self.assertIs(is_reduced_form(table, value), True)
            if g != recoded(g, turn):
                self.assertIs(is_reduced_form(table, (turn * h, g)), plain_leads(table, g, turn * h))
                self.assertIs(is_reduced_form(table, (h, recoded(g, turn))), False)

    def test_roots_that_are_gathered_otherwise(self):
        for chosen in itertools.permutations(range(4), 2):
            first = root_gathering(2, 4, chosen)
            for more in itertools.permutations(range(3), 2):
                second = root_gathering(2, 3, more) * first
                value = (root_gathering(2, 2, (1, 0)) * second, Table.identity(2))
                self.assertIs(is_reduced_form(Table.identity(2, roots=4), value), True)
                self.assertIs(is_reduced_form(Table.identity(2, roots=4), (second, Table.identity(2, roots=2))), False)
                self.assertIs(is_reduced_form(exchange(2, (1, 0, 3, 2)), value), False)
        pairs = exchange(3, (1, 0, 3, 2, 5, 4))
        both = root_gathering(3, 4, (0, 1, 2)) * root_gathering(3, 6, (0, 2, 4))
        self.assertIs(is_reduced_form(pairs, (both, exchange(3, (1, 0)))), True)
        crossed = root_gathering(3, 4, (0, 1, 2)) * root_gathering(3, 6, (0, 3, 4))
        self.assertIs(is_reduced_form(pairs, (crossed, exchange(3, (1, 0)))), True)
        crossed = root_gathering(3, 4, (0, 2, 1)) * root_gathering(3, 6, (0, 3, 4))
        self.assertIs(is_reduced_form(pairs, (crossed, exchange(3, (1, 0)))), False)

    def test_changed_forms(self):
        for table in (FLIP, G, F, TWO_ROOTS, WORD_GROWTH, Table.identity(2, roots=3)):
            h, g = reduced_form(table)
            wrong = [(h, table), (table, h), (h, ~g * ~g * ~g), (g, h), (h,), (h, g, g), [h, g], (h.rows, g.rows), h,
                     (h, None), (None, g), (h, Table.identity(5)), (Table.identity(5), g), (~h, g), (h, h), (SPLIT, g)]
            for value in wrong + [(h, other) for other in OTHER_VALUES] + [(other, g) for other in OTHER_VALUES]:
                told = (isinstance(value, tuple) and len(value) == 2 and isinstance(value[1], Table)
                        and value[1].is_square and value[1].base == table.base and plain_leads(table, value[1], value[0])
                        and plain_moves(closed_graph(value[1])) == [])
                self.assertIs(is_reduced_form(table, value), told, value)
            for value in changed((1, 2)) + NO_TABLES:
                self.assertIs(is_reduced_form(table, value), False)
        # Another map to the same reduced table, and the right one to another number of roots.
        h, g = reduced_form(G)
        self.assertIs(is_reduced_form(G, (recoded(F, h) * h, g)), False)
        self.assertIs(is_reduced_form(G, (beside(h, h), beside(g, g))), False)
        self.assertIs(is_reduced_form(Table.identity(3), (Table.identity(3, roots=3), Table.identity(3, roots=3))),
                      False)

    def test_tables_of_any_size(self):
        word = "0110" * 300
        goal = beside(circle_table(2, word, 2), Table.identity(2))
        long = beside(Table.identity(2, roots=3), shuffled(4500))
        other = beside(shuffled(300), Table.identity(2, roots=3))
        self.check_error(TooMany, 5000, lambda: goal * long)
        self.assertIs(is_reduced_form(goal, (long, goal)), True)
        self.assertIs(is_reduced_form(goal, (other, goal)), False)
        self.assertIs(is_reduced_form(recoded(goal, ~other), (other, goal)), True)
        self.assertIs(is_reduced_form(recoded(goal, ~other), (long * other, goal)), True)
        self.assertIs(is_reduced_form(goal, (Table.identity(2, roots=4), goal)), True)
        self.assertIs(is_reduced_form(shuffled(5000), (Table.identity(2), shuffled(5000))), False)
        self.assertIs(is_reduced_form(TEN, (Table.identity(2), TEN)), False)
        expanded = in_order(2, comb_code(2, 2 ** 9), tuple((root, "") for root in range(2 ** 9)))
        self.assertIs(is_reduced_form(Table.identity(2), (expanded, Table.identity(2, roots=2 ** 9))), False)
        turn = exchange(2, [(root + 1) % 2 ** 9 for root in range(2 ** 9)])
        self.assertIs(is_reduced_form(recoded(turn, ~expanded), (expanded, turn)), True)
        self.assertIs(is_reduced_form(turn, (turn, turn)), True)
        most = exchange(5, [(root + 7) % 5000 for root in range(5000)])
        self.assertIs(is_reduced_form(most, (most, most)), True)


if __name__ == "__main__":
    unittest.main()
