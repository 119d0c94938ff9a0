"""[6.1] to [6.4] and the functions of prefixtable.orders.orders and prefixtable.orders.growth."""

import math
import random

import unittest

from prefixtable.base.codes import refines
from prefixtable.errors import InvalidCode, InvalidOperation, InvalidTable, TooMany
from prefixtable.orders import orders
from prefixtable.orders.growth import growth, is_growth, is_order_certificate, order_certificate
from prefixtable.orders.orders import cycles_of, is_permuted_code, least_permuted_code
from prefixtable.tables.table import Table
from small import (
    FIVE, LONG, LONG_GROWTH, LONG_THREE, NOT_SMALL, NOT_SQUARE, ROOT_GROWTH, TEN, TWO_ROOTS, WORD_GROWTH,
    expanded_cycle, plain_cycles, plain_growth, plain_permuted, plain_taken, small_tables)
from support import KEEPS_NOTHING, OTHER_VALUES, Case, changed, plain_codes
from tables import FLIP, LAST, NO_TABLES, F, G
from test_codes import NO_CODES

F_CODE = ((0, "00"), (0, "01"), (0, "10"), (0, "110"), (0, "111"))
FUNCTIONS = [least_permuted_code, growth, order_certificate]
JUDGES = [is_permuted_code, is_growth, is_order_certificate]
TABLES = small_tables(1, 400)


def finer_codes(table, many):
    """Return permuted codes that are found by expanding cycles of the least one."""
    chance = random.Random(many)
    found = []
    code = least_permuted_code(table)
    for _ in range(many):
        code = expanded_cycle(table, code, chance.choice(plain_cycles(table, code)))
        if len(code) <= 600:
            found.append(code)
    return found


def changes_nothing(table, exponent):
    """Tell whether a power of any exponent from 1 on changes nothing."""
    power = Table.identity(table.base, roots=table.left_roots)
    while exponent:
        if exponent & 1:
            power = power * table
        table = table * table
        exponent = exponent >> 1
    return not power


class ExamplesTest(Case):

    def test_printed_examples(self):
        self.assertEqual([least_permuted_code(F), least_permuted_code(G), is_permuted_code(F, ((0, "0"), (0, "1")))],
                         [F_CODE, None, False])
        self.assertEqual(list(cycles_of(LAST, ((0, "0"), (0, "10"), (0, "11")))),
                         [((0, "0"),), ((0, "10"), (0, "11"))])
        self.assertEqual([growth(F), is_growth(G, ((0, "1"), 1, "1")), is_growth(G, ((0, "1"), 2, "11")),
                          is_growth(G, ((0, "0"), 1, "0"))], [None, True, True, False])
        self.assertEqual([order_certificate(G)[0], is_order_certificate(F, ("permuted", F_CODE))], ["grows", True])
        self.assertEqual(orders.MAX_SMALL, 9)


class PermutedCodesTest(Case):

    def test_each_table_has_just_one_of_both(self):
        kinds = {}
        for table in TABLES:
            code, told = least_permuted_code(table), growth(table)
            self.assertEqual(code is None, told is not None)
            kinds.setdefault((table.base, table.left_roots, code is None), []).append(table)
        for base in (2, 3, 4, 5):
            for roots in (1, 2, 3):
                self.assertTrue(kinds[base, roots, False] and kinds[base, roots, True])

    def test_least_permuted_codes(self):
        for table in TABLES:
            code = least_permuted_code(table)
            if code is not None:
                self.assertTrue(plain_permuted(table, code))
                self.assertIs(is_permuted_code(table, code), True)
                self.assertLessEqual(len(code), 256)
                self.assertTrue(refines(table.base, code, table.left_code))
                self.assertTrue(refines(table.base, code, table.right_code))
        self.assertEqual(len(least_permuted_code(LONG)), 256)
        self.assertEqual(len(least_permuted_code(LONG_THREE)), 81)
        self.assertEqual(least_permuted_code(TWO_ROOTS), ((0, ""), (1, "0"), (1, "1")))
        self.assertEqual(least_permuted_code(Table.identity(5, roots=9)), tuple((root, "") for root in range(9)))

    def test_no_permuted_code_is_less_fine_than_the_least_one(self):
        for base, roots, most in ((2, 1, 7), (2, 2, 7), (3, 1, 9), (4, 2, 8), (5, 1, 9), (3, 3, 9)):
            codes = [code for size in range(1, most + 1) for code in plain_codes(base, roots, size)]
            for table in TABLES:
                if (table.base, table.left_roots) == (base, roots):
                    least = least_permuted_code(table)
                    for code in codes:
                        told = plain_permuted(table, code)
                        self.assertIs(is_permuted_code(table, code), told)
                        if told:
                            self.assertIsNotNone(least)
                            self.assertIs(refines(base, code, least), True)

    def test_finer_codes(self):
        for table in TABLES[:120]:
            least = least_permuted_code(table)
            for code in finer_codes(table, 5) if least else []:
                self.assertTrue(plain_permuted(table, code))
                self.assertIs(is_permuted_code(table, code), True)
                self.assertIs(is_order_certificate(table, ("permuted", code)), True)
                self.assertIs(refines(table.base, code, least), True)
                self.assertEqual(list(cycles_of(table, code)), plain_cycles(table, code))

    def test_orders_are_multiples_of_the_lengths_of_cycles(self):
        great = 0
        for table in TABLES:
            code = least_permuted_code(table)
            if code is not None:
                order = math.lcm(*[len(cycle) for cycle in cycles_of(table, code)])
                great = max(great, order)
                self.assertTrue(changes_nothing(table, order))
                for part in [part for part in range(2, order + 1) if order % part == 0]:
                    self.assertFalse(changes_nothing(table, order // part))
        self.assertEqual(great, 256)

    def test_codes_with_many_prefixes(self):
        rows = 4999
        deep = tuple(sorted([(0, "1" * at + "0") for at in range(rows)] + [(0, "1" * rows)]))
        self.assertIs(is_permuted_code(Table.identity(2), deep), True)
        self.assertIs(is_permuted_code(FLIP, deep), False)
        self.assertIs(is_permuted_code(Table.identity(2), deep + ((0, "1" * rows + "1"),)), False)
        self.assertEqual(len(list(cycles_of(Table.identity(2), deep))), 5000)

    def test_changed_codes(self):
        for table, code in ((FLIP, ((0, "0"), (0, "1"))), (LAST, ((0, "0"), (0, "10"), (0, "11"))),
                            (TWO_ROOTS, ((0, ""), (1, "0"), (1, "1")))):
            for value in changed(code):
                self.assertIs(is_permuted_code(table, value), plain_permuted(table, value), value)
        for value in NO_CODES + OTHER_VALUES + [F, (F,), list(F_CODE), F_CODE[::-1]]:
            self.assertIs(is_permuted_code(F, value), False)
        self.assertIs(is_permuted_code(Table.identity(2), ((False, ""),)), False)
        self.assertIs(is_permuted_code(F, F_CODE), True)
        self.assertIs(is_permuted_code(FLIP, F_CODE), False)


class CyclesTest(Case):

    def test_cycles_of_the_least_codes(self):
        for table in TABLES:
            code = least_permuted_code(table)
            if code is not None:
                cycles = list(cycles_of(table, code))
                self.assertEqual(cycles, plain_cycles(table, code))
                self.assertEqual(sorted(prefix for cycle in cycles for prefix in cycle), list(code))
                self.assertEqual([cycle[0] for cycle in cycles], sorted(min(cycle) for cycle in cycles))
                for cycle in cycles:
                    for prefix, following in zip(cycle, cycle[1:] + cycle[:1]):
                        self.assertEqual(table[prefix], following)

    def test_in_part_and_twice_at_once(self):
        code = expanded_cycle(LAST, ((0, "0"), (0, "10"), (0, "11")), ((0, "10"), (0, "11")))
        one, other = cycles_of(LAST, code), cycles_of(LAST, code)
        told = [((0, "0"),), ((0, "100"), (0, "110")), ((0, "101"), (0, "111"))]
        self.assertEqual([next(one), next(one), next(other)], [told[0], told[1], told[0]])
        self.assertEqual([list(one), list(other)], [told[2:], told[1:]])

    def test_errors(self):
        for value in NO_TABLES:
            self.check_error(InvalidTable, KEEPS_NOTHING, lambda: next(cycles_of(value, None)))
        for table in NOT_SQUARE:
            self.check_error(InvalidOperation, KEEPS_NOTHING, lambda: next(cycles_of(table, None)))
        for value in NO_CODES + OTHER_VALUES + [((0, "0"), (0, "1")), list(F_CODE), F_CODE[1:]]:
            self.check_error(InvalidCode, KEEPS_NOTHING, lambda: next(cycles_of(F, value)))
            self.check_error(InvalidCode, KEEPS_NOTHING, lambda: next(cycles_of(TEN, value)))
        ten = tuple((root, "") for root in range(10))
        self.check_error(TooMany, 9, lambda: next(cycles_of(Table.identity(3, roots=10), ten)))


class GrowthTest(Case):

    def test_growths(self):
        great = 0
        for table in TABLES:
            found = growth(table)
            if found is not None:
                self.assertTrue(plain_growth(table, found))
                self.assertIs(is_growth(table, found), True)
                self.assertEqual(order_certificate(table)[0], "grows")
                great = max(great, found[1])
        self.assertEqual(great, 64)
        self.assertTrue(plain_growth(ROOT_GROWTH, growth(ROOT_GROWTH)))

    def test_growths_with_powers_and_words(self):
        self.assertEqual(growth(LONG_GROWTH)[1:], (64, "1"))
        self.assertEqual(growth(~LONG_GROWTH)[1:], (64, "0"))
        self.assertIs(is_growth(WORD_GROWTH, ((0, "0"), 1, "12")), True)
        found = [growth(table) for table in TABLES]
        self.assertTrue([told for told in found if told and told[1] > 1 and len(told[2]) > 1])

    def test_other_growths(self):
        for table in TABLES:
            found = growth(table)
            if found is not None:
                prefix, power, word = found
                longer = (prefix[0], prefix[1] + word)
                others = [(longer, power, word), (plain_taken(table, prefix), power, word),
                          ((prefix[0], prefix[1] + word * 50), power, word)]
                others = others + [(prefix, power * many, word * many) for many in (2, 3, 256 // power, 256 // power + 1)]
                others = others + [(prefix, power, word + "0"), (prefix, power + 1, word), (prefix, power, word * 2)]
                others = others + [((prefix[0], prefix[1][:-1]), power, word), ((prefix[0], prefix[1] + "01"), power, word)]
                for other in others:
                    self.assertIs(is_growth(table, other), plain_growth(table, other), (table.rows, other))
                    self.assertIs(is_order_certificate(table, ("grows", other)), plain_growth(table, other))
                self.assertIs(is_growth(table, others[0]), True)
                self.assertIs(is_growth(table, others[2]), True)

    def test_powers_just_outside(self):
        for power, fits in ((1, True), (255, True), (256, True), (257, False), (0, False), (-1, False)):
            self.assertIs(is_growth(G, ((0, "1"), power, "1" * power)), fits)
        self.assertIs(is_growth(G, ((0, "1"), 0, "")), False)
        self.assertIs(is_growth(Table.identity(2), ((0, "1"), 1, "")), False)
        self.assertIs(is_growth(G, ((0, "1" * 3000), 256, "1" * 256)), True)

    def test_growths_of_other_tables(self):
        for value in (growth(G), growth(LONG_GROWTH)):
            for table in (F, ~G, FLIP, LAST, LONG, TWO_ROOTS):
                self.assertIs(is_growth(table, value), False)

    def test_each_step_must_take_the_whole_prefix(self):
        # The second power takes the root 0 to its part 0, but the first step takes its halves to two other roots.
        table = Table(2, ((0, "0"), (1, "0")), ((0, "1"), (2, "0")), ((1, "0"), (0, "00")), ((1, "1"), (1, "1")),
                      ((2, "0"), (0, "01")), ((2, "10"), (2, "1")), ((2, "11"), (0, "1")))
        self.assertEqual((table * table)[0, ""], (0, "0"))
        self.assertIs(is_growth(table, ((0, ""), 2, "0")), False)
        self.assertIs(is_growth(table, ((0, "0"), 2, "0")), True)
        self.assertIs(is_order_certificate(table, ("grows", ((0, ""), 2, "0"))), False)

    def test_changed_growths(self):
        for table, value in ((G, ((0, "1"), 2, "11")), (WORD_GROWTH, ((0, "0"), 1, "12"))):
            for other in changed(value):
                self.assertIs(is_growth(table, other), plain_growth(table, other), other)
            for other in changed(("grows", value)):
                fits = (isinstance(other, tuple) and len(other) == 2 and other[0] == "grows"
                        and plain_growth(table, other[1]))
                self.assertIs(is_order_certificate(table, other), fits)


class CertificatesTest(Case):

    def test_certificates(self):
        for table in TABLES:
            kind, thing = order_certificate(table)
            self.assertIs(is_order_certificate(table, (kind, thing)), True)
            if kind == "permuted":
                self.assertTrue(plain_permuted(table, thing))
                self.assertIs(is_order_certificate(table, ("grows", thing)), False)
            else:
                self.assertEqual(kind, "grows")
                self.assertTrue(plain_growth(table, thing))
                self.assertIs(is_order_certificate(table, ("permuted", thing)), False)

    def test_changed_certificates(self):
        for value in changed(("permuted", ((0, "0"), (0, "1")))):
            fits = (isinstance(value, tuple) and len(value) == 2 and value[0] == "permuted"
                    and plain_permuted(FLIP, value[1]))
            self.assertIs(is_order_certificate(FLIP, value), fits)
        for value in OTHER_VALUES + [F, (F, F), ("permuted",), ("permuted", F_CODE, 1), ["permuted", F_CODE], F_CODE]:
            for table in (F, G, FIVE):
                self.assertIs(is_order_certificate(table, value), False)


class ErrorsTest(Case):

    def test_errors(self):
        for call in FUNCTIONS + JUDGES:
            more = () if call in FUNCTIONS else (None,)
            for value in NO_TABLES:
                self.check_error(InvalidTable, KEEPS_NOTHING, call, value, *more)
            for table in NOT_SQUARE + [Table.identity(2, roots=10) * Table(2, *ten_to_eleven())]:
                self.check_error(InvalidOperation, KEEPS_NOTHING, call, table, *more)
            for table in NOT_SMALL:
                self.check_error(TooMany, 9, call, table, *more)


def ten_to_eleven():
    """Return rows that take eleven roots to ten."""
    return [((root, ""), (root, "")) for root in range(9)] + [((9, ""), (9, "0")), ((10, ""), (9, "1"))]


if __name__ == "__main__":
    unittest.main()
