"""[12.1] and the functions of prefixtable.powers.powers."""

import random
import unittest

from prefixtable.errors import InvalidOperation, InvalidTable, TooMany
from prefixtable.graphs.circles import order
from prefixtable.orders.orbits import exponent
from prefixtable.powers.powers import commute, exponent_between
from prefixtable.tables.building import beside, within
from prefixtable.tables.table import Table
from changes import chance_change, plain_product
from small import KNOWN_TABLES, LONG, NOT_SMALL, NOT_SQUARE, TEN, TWO_ROOTS, WORD_GROWTH, counter, small_tables
from support import KEEPS_NOTHING, Case, chance_rows, chance_streams
from tables import FLIP, LAST, NO_TABLES, F, G
from test_circles import circle_of_roots
from test_reduced import exchange, shuffled
from test_regions import SIXTY_ONE


def plain_exponent(first, second, most=40):
    """Return the exponent with which the second table is a power of the first one, by trying those up to a bound."""
    told = order(first)
    power = back = Table.identity(first.base, roots=first.left_roots)
    for n in range(most if told is None else told):
        if power == second:
            return n
        if told is None and back == second:
            return -n
        power, back = power * first, back * ~first
    return None


class ExponentBetweenTest(Case):

    def test_printed_examples(self):
        self.assertEqual([exponent_between(F, ~F), exponent_between(G, ~G), exponent_between(G, G * G * G),
                          exponent_between(F, G)], [4, -1, 3, None])

    def test_all_small_powers(self):
        kinds = set()
        for table in small_tables(71, 120):
            told = order(table)
            power = back = Table.identity(table.base, roots=table.left_roots)
            for n in range(20 if told is None else min(told, 70)):
                if len(power) <= 9:
                    self.assertEqual(exponent_between(table, power), n)
                    kinds.add((told is None, n > 0))
                if len(back) <= 9:
                    self.assertEqual(exponent_between(table, back), -n if told is None else -n % told)
                power, back = power * table, back * ~table
        self.assertEqual(len(kinds), 4)

    def test_tables_that_are_no_powers(self):
        found = 0
        tables = small_tables(72, 150)
        for first in tables:
            same = [table for table in tables if (table.base, table.left_roots) == (first.base, first.left_roots)]
            for second in same[::9] + [Table(first.base, *chance_rows(random.Random(1), first.base, first.left_roots,
                                                                      first.left_roots, 5))]:
                told = plain_exponent(first, second)
                self.assertEqual(exponent_between(first, second), told)
                found = found + (told is None)
        self.assertGreater(found, 150)

    def test_tables_that_agree_with_powers_in_part(self):
        one, two = Table.identity(2), Table.identity(2, roots=2)
        # On each root some power fits, but not the same one.
        for first, second, told in ((beside(G, G), beside(G, ~G), None), (beside(G, one), beside(G * G, FLIP), None),
                                    (beside(G, FLIP), beside(G * G, one), 2), (beside(G, FLIP), beside(G * G, FLIP), None),
                                    (beside(FLIP, F), beside(one, F), 6), (beside(FLIP, F), beside(FLIP, F ** 2), 7),
                                    (beside(FLIP, LAST), beside(FLIP, one), None), (beside(G, LAST), beside(one, LAST), None),
                                    (beside(FLIP, LAST), beside(one, LAST), None), (beside(LAST, G), beside(LAST, ~G), -1),
                                    (beside(FLIP, FLIP), two, 0), (exchange(2, (1, 0)), two, 0), (two, beside(FLIP, one), None),
                                    (exchange(2, (1, 2, 0)), exchange(2, (2, 0, 1)), 2),
                                    (exchange(2, (1, 2, 0)), exchange(2, (1, 0, 2)), None)):
            self.assertEqual(exponent_between(first, second), told)
        self.assertEqual(exponent_between(LONG, LONG), 1)
        self.assertEqual(exponent_between(LONG, ~LONG), 255)
        self.assertIsNone(exponent_between(LONG, FLIP))
        self.assertEqual(exponent_between(beside(F, circle_of_roots(3)), beside(F, Table.identity(2, roots=3))), 6)
        self.assertEqual(exponent_between(beside(counter(2, 3), circle_of_roots(3)), beside(one, exchange(2, (1, 2, 0)))), 16)
        self.assertIsNone(exponent_between(FLIP, F))
        self.assertIsNone(exponent_between(G, FLIP))
        self.assertEqual([exponent_between(table, table ** 0) for table in KNOWN_TABLES], [0] * len(KNOWN_TABLES))

    def test_exponents_of_tables_and_streams(self):
        for table in small_tables(73, 60):
            for n in (-3, -1, 2, 5):
                power = table ** n
                told = exponent_between(table, power) if len(power) <= 9 else None
                if told is not None and order(table) is None:
                    self.assertEqual(told, n)
                    for stream in chance_streams(random.Random(n), table.base, table.left_roots, 5):
                        here = exponent(table, stream, power(stream))
                        self.assertTrue(here == n or exponent(table, stream, stream) == 0 and here is not None)

    def test_errors(self):
        self.check_pairs(exponent_between)
        for table in NOT_SMALL + [SIXTY_ONE]:
            same = Table.identity(table.base, roots=table.left_roots)
            for first, second in ((table, same), (same, table), (table, table)):
                self.check_error(TooMany, 9, exponent_between, first, second)

    def check_pairs(self, call):
        for value in NO_TABLES:
            self.check_error(InvalidTable, KEEPS_NOTHING, call, value, None)
            self.check_error(InvalidTable, KEEPS_NOTHING, call, F, value)
            self.check_error(InvalidTable, KEEPS_NOTHING, call, TEN, value)
        for table in NOT_SQUARE:
            self.check_error(InvalidOperation, KEEPS_NOTHING, call, table, None)
            self.check_error(InvalidOperation, KEEPS_NOTHING, call, F, table)
            self.check_error(InvalidOperation, KEEPS_NOTHING, call, TEN, table)
        for first, second in ((F, Table.identity(3)), (F, TWO_ROOTS), (WORD_GROWTH, G), (TWO_ROOTS, F),
                              (SIXTY_ONE, Table.identity(3)), (SIXTY_ONE, TWO_ROOTS), (Table.identity(3), TEN)):
            self.check_error(InvalidOperation, KEEPS_NOTHING, call, first, second)


class CommuteTest(Case):

    def test_tables_that_commute_and_others(self):
        chance = random.Random(74)
        found = [0, 0]
        for table in small_tables(74, 150):
            base, roots = table.base, table.left_roots
            others = [table ** 2, ~table, chance_change(chance, base, roots, 3, roots), Table.identity(base, roots=roots)]
            for other in others:
                told = plain_product(base, table.rows, other.rows) == plain_product(base, other.rows, table.rows)
                self.assertIs(commute(table, other), told)
                self.assertIs(commute(other, table), told)
                found[told] = found[told] + 1
        self.assertGreater(min(found), 50)
        self.assertIs(commute(within(G, 1, (0, "0")), within(F, 1, (0, "1"))), True)
        self.assertIs(commute(within(G, 1, (0, "0")), within(F, 1, (0, "0"))), False)
        self.assertIs(commute(SIXTY_ONE, SIXTY_ONE ** 3), True)

    def test_products_with_many_rows(self):
        one, other = within(shuffled(2500), 1, (0, "0")), within(shuffled(2500), 1, (0, "1"))
        self.assertEqual(len(one * other), 5000)
        self.assertIs(commute(one, other), True)
        self.check_error(TooMany, 5000, commute, one, within(shuffled(2501), 1, (0, "1")))
        self.check_error(TooMany, 5000, commute, within(shuffled(2501), 1, (0, "0")), other)
        # Only one of the two products has more rows than a table.
        long = within(shuffled(2501), 1, (0, "0"))
        self.assertEqual(long * (~long * FLIP), FLIP)
        self.check_error(TooMany, 5000, commute, long, ~long * FLIP)
        self.check_error(TooMany, 5000, commute, ~long * FLIP, long)
        self.assertIs(commute(one * other, ~other), True)
        self.assertIs(commute(one, within(shuffled(2400), 1, (0, "0"))), False)
        self.assertIs(commute(shuffled(4000), ~shuffled(4000)), True)

    def test_errors(self):
        ExponentBetweenTest.check_pairs(self, commute)
        self.check_error(TooMany, 5000, commute, shuffled(5000), shuffled(5000) * FLIP)


if __name__ == "__main__":
    unittest.main()
