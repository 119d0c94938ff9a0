"""[11.1], [11.4] and the functions of prefixtable.recodings.recodings."""

import random
import unittest

from prefixtable.errors import InvalidOperation, InvalidTable, TooMany
from prefixtable.graphs.circles import growing_circles, loop_lengths, order, shrinking_circles
from prefixtable.graphs.matching import are_alike, is_likeness_certificate, likeness_certificate
from prefixtable.recodings.recodings import is_recoding, recoding
from prefixtable.recodings.reduced import recoded, reduced_form, root_expansion
from prefixtable.tables.building import beside, beside_all, within
from prefixtable.tables.table import Table
from changes import chance_change, pairs_of_tables, plain_leads
from small import (
    LONG, LONG_GROWTH, NOT_SMALL, NOT_SQUARE, ROOT_GROWTH, TEN, TWO_ROOTS, WORD_GROWTH, small_tables)
from support import KEEPS_NOTHING, OTHER_VALUES, Case, chance_streams
from tables import FLIP, GATHER, LAST, NO_TABLES, SPLIT, F, G
from test_circles import circle_of_roots, circle_table
from test_reduced import exchange, shuffled
from test_regions import SIXTY_ONE


def two_ways(first, second, base=3):
    """Return a table with a split and a merge between which two edges pass so many roots."""
    rows = [((0, ""), (0, "0")), ((1, "0"), (1, ""))]
    root = 2
    for digit, many in (("1", first), ("2", second)):
        row = [(1, digit)] + [(root + at, "") for at in range(many)] + [(0, digit)]
        rows.extend(zip(row, row[1:]))
        root = root + many
    return Table(base, *rows, *[((1, digit), (0, digit)) for digit in "34"[:base - 3]])


class ExamplesTest(Case):

    def test_printed_examples(self):
        turned = recoded(G, FLIP)
        self.assertEqual([turned.rows[0], is_recoding(G, turned, FLIP), recoding(G, turned) is None, recoding(G, ~G)],
                         [((0, "0"), (0, "01")), True, False, None])


class RecodingTest(Case):

    def check_recoding(self, first, second, fits):
        told = recoding(first, second)
        certificate = likeness_certificate(first, second)
        self.assertEqual(certificate[0], "alike" if fits else "unlike")
        self.assertIs(is_likeness_certificate(first, second, certificate), True)
        self.assertIs(are_alike(first, second), fits)
        if not fits:
            self.assertIsNone(told)
            return
        self.assertTrue(plain_leads(first, second, told), (first.rows, second.rows))
        self.assertIs(is_recoding(first, second, told), True)
        self.assertEqual(recoded(first, told), second)
        for call in (growing_circles, shrinking_circles, loop_lengths, order):
            self.assertEqual(call(first), call(second))
        for stream in chance_streams(random.Random(3), first.base, first.left_roots, 5):
            self.assertEqual(told(first(stream)), second(told(stream)))

    def test_tables_between_which_a_change_leads(self):
        chance = random.Random(7)
        unlike_roots = 0
        for table in small_tables(61, 150):
            for _ in range(3):
                change = chance_change(chance, table.base, table.left_roots, chance.randrange(1, 7))
                other = recoded(table, change)
                if len(other) <= 9 and len(table) <= 9:
                    self.check_recoding(table, other, True)
                    self.check_recoding(other, table, True)
                    unlike_roots = unlike_roots + (other.left_roots != table.left_roots)
        self.assertGreater(unlike_roots, 60)

    def test_pairs_of_all_kinds(self):
        found = [0, 0]
        for first, second in pairs_of_tables(62, 300):
            fits = are_alike(first, second)
            self.check_recoding(first, second, fits)
            self.check_recoding(second, first, fits)
            found[fits] = found[fits] + 1
        self.assertGreater(min(found), 50)

    def test_circles_alone_differ(self):
        self.check_recoding(circle_table(5, "1", 2), circle_table(5, "1", 1), False)
        for base in (2, 3):
            for first, second in ((("1", 2), ("1", 1)), (("01", 1), ("01", 3))):
                self.check_recoding(circle_table(base, *first), circle_table(base, *second), False)
        self.check_recoding(beside(G, FLIP), beside(G, FLIP, FLIP), True)
        self.check_recoding(beside(G, G), beside(G, Table.identity(2)), False)
        self.check_recoding(beside(G, G, Table.identity(2)), beside(G, Table.identity(2)), False)

    def test_words_alone_differ(self):
        for base in (2, 3):
            for first, second in (("1", "0"), ("01", "11"), ("001", "011")):
                self.check_recoding(circle_table(base, first, 1), circle_table(base, second, 1), False)
        self.check_recoding(G, ~G, False)
        self.check_recoding(~WORD_GROWTH, WORD_GROWTH, False)

    def test_loops_alone_differ(self):
        self.check_recoding(beside(G, Table.identity(2)), beside(G, exchange(2, (1, 0))), False)
        self.check_recoding(beside(G, Table.identity(2)), G, False)
        for base in (2, 3, 4, 5):
            for many in range(1, 10):
                for other in range(1, 10):
                    fits = (many - other) % (base - 1) == 0
                    self.check_recoding(Table.identity(base, roots=many), Table.identity(base, roots=other), fits)
        self.check_recoding(F, circle_of_roots(5), True)
        self.check_recoding(F, circle_of_roots(6), False)
        self.check_recoding(beside(F, FLIP), beside(circle_of_roots(2), circle_of_roots(5)), True)
        self.check_recoding(TWO_ROOTS, circle_of_roots(3), True)
        self.check_recoding(LAST, beside(FLIP, Table.identity(2)), True)

    def test_exponents_alone_differ(self):
        for first in range(4):
            for second in range(3):
                for third in range(4):
                    for fourth in range(3):
                        one, other = two_ways(first, second), two_ways(third, fourth)
                        told = [growing_circles(one), shrinking_circles(one), loop_lengths(one)]
                        self.assertEqual([growing_circles(other), shrinking_circles(other), loop_lengths(other)], told)
                        # A recoding can move both ways alike, so only the difference tells.
                        self.check_recoding(one, other, first - second == third - fourth)
        self.check_recoding(two_ways(1, 0, 5), two_ways(0, 1, 5), False)
        self.check_recoding(two_ways(2, 1, 4), two_ways(2, 1, 4), True)

    def test_long_steps_to_other_places(self):
        for first, second in ((LONG, circle_of_roots(9)), (LONG, LONG), (LONG_GROWTH, LONG_GROWTH),
                              (ROOT_GROWTH, recoded(ROOT_GROWTH, root_expansion(2, 2, 1)))):
            self.check_recoding(first, second, are_alike(first, second))
        chance = random.Random(8)
        for table in (LONG_GROWTH, ~LONG_GROWTH, LONG, WORD_GROWTH, two_ways(3, 2), ~two_ways(1, 3)):
            for _ in range(20):
                change = chance_change(chance, table.base, table.left_roots, 3)
                other = recoded(table, change)
                if len(other) <= 9:
                    self.check_recoding(table, other, True)

    def test_errors(self):
        calls = (recoding, lambda first, second: is_recoding(first, second, None))
        for call in calls:
            for value in NO_TABLES:
                self.check_error(InvalidTable, KEEPS_NOTHING, call, value, None)
                self.check_error(InvalidTable, KEEPS_NOTHING, call, F, value)
                self.check_error(InvalidTable, KEEPS_NOTHING, call, SIXTY_ONE, value)
            for table in NOT_SQUARE:
                self.check_error(InvalidOperation, KEEPS_NOTHING, call, table, None)
                self.check_error(InvalidOperation, KEEPS_NOTHING, call, F, table)
                self.check_error(InvalidOperation, KEEPS_NOTHING, call, TEN, table)
            for first, second in ((F, Table.identity(3)), (SIXTY_ONE, Table.identity(3)), (WORD_GROWTH, G),
                                  (Table.identity(3), TEN)):
                self.check_error(InvalidOperation, KEEPS_NOTHING, call, first, second)
        for table in NOT_SMALL + [SIXTY_ONE]:
            for first, second in ((table, Table.identity(table.base)), (Table.identity(table.base), table),
                                  (table, table)):
                self.check_error(TooMany, 9, recoding, first, second)
                self.assertIs(is_recoding(first, second, None), False)
                self.assertIs(is_recoding(first, first, first), True)


class IsRecodingTest(Case):

    def test_recodings_of_others(self):
        chance = random.Random(9)
        for table in small_tables(63, 80):
            change = chance_change(chance, table.base, table.left_roots, chance.randrange(1, 9))
            other = recoded(table, change)
            for value in (change, other * change, change * table, change * ~table, ~other * ~other * change):
                self.assertIs(is_recoding(table, other, value), True)
                self.assertIs(is_recoding(~table, ~other, value), True)
                self.assertIs(is_recoding(other, table, ~value), True)
            for _ in range(3):
                value = chance_change(chance, table.base, table.left_roots, chance.randrange(1, 9), change.right_roots)
                self.assertIs(is_recoding(table, other, value), plain_leads(table, other, value))
        self.assertIs(is_recoding(G, G, Table.identity(2)), True)
        self.assertIs(is_recoding(Table.identity(2), Table.identity(2), F), True)

    def test_wrong_recodings(self):
        turned = recoded(G, FLIP)
        for value in (F, Table.identity(2), G, SPLIT, FLIP * FLIP, FLIP * F, Table.identity(3), Table.identity(2, roots=2)):
            self.assertIs(is_recoding(G, turned, value), plain_leads(G, turned, value), value.rows)
        for first, second in ((G, G), (turned, G * G), (F, G), (G, turned * turned), (~G, turned)):
            self.assertIs(is_recoding(first, second, FLIP), False)
        self.assertIs(is_recoding(turned, G, FLIP), True)
        # The right streams, but under roots that the second table does not have.
        self.assertIs(is_recoding(Table.identity(2), Table.identity(2, roots=2), SPLIT), True)
        self.assertIs(is_recoding(Table.identity(2), Table.identity(2, roots=3), SPLIT), False)
        self.assertIs(is_recoding(Table.identity(2, roots=2), Table.identity(2, roots=2), SPLIT), False)
        self.assertIs(is_recoding(Table.identity(3), Table.identity(3, roots=3), ~GATHER), True)
        self.assertIs(is_recoding(Table.identity(3), Table.identity(3, roots=3), GATHER), False)
        self.assertIs(is_recoding(Table.identity(2), Table.identity(2), Table.identity(3)), False)

    def test_values_of_other_kinds(self):
        for value in OTHER_VALUES + [F.rows, [F], (F,), str(F), {0: F}, ("alike", (), ()), reduced_form(G)]:
            self.assertIs(is_recoding(G, G, value), False)

    def test_tables_of_any_size(self):
        change, table = within(shuffled(3000), 1, (0, "0")), within(shuffled(3000), 1, (0, "1"))
        self.check_error(TooMany, 5000, lambda: change * table)
        self.assertIs(is_recoding(table, table, change), True)
        self.assertIs(is_recoding(change, change, table), True)
        self.assertIs(is_recoding(change, table, FLIP), True)
        self.assertIs(is_recoding(table, change, change), False)
        self.assertIs(is_recoding(change, change, FLIP * table), False)
        long = shuffled(5000)
        self.assertIs(is_recoding(long, long, long), True)
        self.assertIs(is_recoding(long, ~long, long), False)
        self.assertIs(is_recoding(long, long, shuffled(5000, 2)), False)
        self.assertIs(is_recoding(beside_all((G,) * 1000), beside_all((G,) * 1000), Table.identity(2, roots=1000)), True)


if __name__ == "__main__":
    unittest.main()
