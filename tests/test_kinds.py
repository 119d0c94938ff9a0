"""[5.1] to [5.4] and the functions of stage 5."""

import random
import unittest

from prefixtable.base.codes import code_through
from prefixtable.base.streams import make_stream, precedes
from prefixtable.errors import InvalidTable
from prefixtable.tables.kinds import (
    fixed_prefixes, is_moved_prefix, is_order_break, is_round_break, keeps_order, keeps_round, lone_fixed_streams,
    moved_prefix, order_break, round_break)
from prefixtable.tables.table import Table
from support import (
    KEEPS_NOTHING, Case, all_streams, all_words, chance_family, chance_rows, chance_streams, changed,
    plain_beginning, plain_prefix, plain_stream)
from tables import FLIP, GATHER, LAST, NO_TABLES, SPLIT, F, G
from test_building import plain_apart
from test_codes import comb_code

FUNCTIONS = [keeps_order, order_break, keeps_round, round_break, fixed_prefixes, lone_fixed_streams, moved_prefix]
JUDGES = [is_order_break, is_round_break, is_moved_prefix]


def plain_before(one, other):
    """Tell by the definition whether a stream comes before another one; they must be short."""
    return (one[0], plain_beginning(one, 80)) < (other[0], plain_beginning(other, 80))


def plain_round(streams):
    """Tell by the definition whether three streams are different and in round order."""
    x, y, z = streams
    return (plain_before(x, y) and plain_before(y, z) or plain_before(y, z) and plain_before(z, x)
            or plain_before(z, x) and plain_before(x, y))


def plain_break(table, value):
    """Tell by the definition whether a value is an order break, or for three streams a round break."""
    if not isinstance(value, tuple) or not all(plain_stream(table.base, table.left_roots, x) for x in value):
        return False
    images = [table(stream) for stream in value]
    if len(value) == 2:
        return plain_before(*value) and plain_before(images[1], images[0])
    return len(value) == 3 and plain_round(value) and not plain_round(images)


def plain_moved(table, value):
    """Tell by the definition whether a value is a moved prefix."""
    if not isinstance(value, tuple) or len(value) != 2:
        return False
    p, q = value
    if not plain_prefix(table.base, table.left_roots, p) or not plain_prefix(table.base, table.right_roots, q):
        return False
    return plain_apart(p, q) and p in table and table[p] == q


def turned(base, left, right, turn):
    """Return the table that takes one code to the other one in round order."""
    return Table(base, *zip(left, right[turn:] + right[:turn]))


def some_tables():
    """Return tables of many kinds."""
    chance = random.Random(1)
    found = [F, G, ~G, FLIP, LAST, SPLIT, ~SPLIT, GATHER, F * G, F ** 5, G ** 3, Table.identity(4, roots=3)]
    for base, left, right in chance_family(chance, 150):
        rows = chance_rows(chance, base, left, right, chance.randrange(1, 7))
        found.append(Table(base, *rows))
        codes = [tuple(sorted(row[at] for row in rows)) for at in (0, 1)]
        found.append(turned(base, *codes, chance.randrange(len(rows)) * chance.randrange(2)))
    return found


class ExamplesTest(Case):

    def test_printed_examples(self):
        self.assertEqual([keeps_order(G), keeps_order(FLIP), keeps_round(FLIP), keeps_round(F), keeps_round(LAST)],
                         [True, False, True, True, False])
        self.assertIs(is_order_break(FLIP, ((0, "", "0"), (0, "", "1"))), True)
        self.assertIs(is_round_break(LAST, ((0, "", "0"), (0, "1", "0"), (0, "", "1"))), True)
        self.assertEqual([fixed_prefixes(G), lone_fixed_streams(G), fixed_prefixes(LAST), lone_fixed_streams(LAST)],
                         [(), ((0, "", "0"), (0, "", "1")), ((0, "0"),), ()])
        self.assertEqual([is_moved_prefix(G, ((0, "01"), (0, "10"))), is_moved_prefix(G, ((0, "1"), (0, "11"))),
                          moved_prefix(F ** 5)], [True, False, None])


class OrdersTest(Case):

    def test_orders(self):
        for table in some_tables():
            rights = [right for _, right in table.rows]
            turns = [rights[at:] + rights[:at] for at in range(len(rights))]
            self.assertIs(keeps_order(table), rights == sorted(rights))
            self.assertIs(keeps_round(table), any(turn == sorted(turn) for turn in turns))
            found = order_break(table)
            self.assertEqual(found is None, keeps_order(table))
            if found is not None:
                self.assertTrue(plain_break(table, found) and len(found) == 2)
                self.assertIs(is_order_break(table, found), True)
                self.assertIs(is_order_break(table, found[::-1]), False)
            found = round_break(table)
            self.assertEqual(found is None, keeps_round(table))
            if found is not None:
                self.assertTrue(plain_break(table, found) and len(found) == 3)
                for turn in range(3):
                    self.assertIs(is_round_break(table, found[turn:] + found[:turn]), True)
                    self.assertIs(is_round_break(table, (found[turn:] + found[:turn])[::-1]), False)

    def test_breaks_of_others_are_judged(self):
        chance = random.Random(2)
        for table in some_tables()[:60]:
            streams = chance_streams(chance, table.base, table.left_roots, 12)
            for x in streams:
                for y in streams:
                    self.assertIs(is_order_break(table, (x, y)), plain_break(table, (x, y)))
                    for z in streams[:4]:
                        self.assertIs(is_round_break(table, (x, y, z)), plain_break(table, (x, y, z)))

    def test_breaks_of_one_row_from_streams_that_differ_late(self):
        x, y = (0, "0" * 300, "1"), (0, "0" * 300 + "1", "0")
        self.assertIs(precedes(2, y, x), True)
        table = Table(2, *[((0, "0" * 301), (0, "0" * 300 + "1")), ((0, "0" * 300 + "1"), (0, "0" * 301))],
                      *[((0, "0" * at + "1"), (0, "0" * at + "1")) for at in range(300)])
        self.assertIs(is_order_break(table, ((0, "", "0"), y)), True)
        self.assertIs(is_order_break(table, (y, x)), False)
        self.assertIs(is_order_break(G, (y, x)), False)

    def test_deep_tables(self):
        code = comb_code(2, 5000)
        other = code_through(2, 1, (0, "0" * 4999))
        self.assertIs(keeps_order(turned(2, code, other, 0)), True)
        self.assertIs(keeps_round(turned(2, code, other, 4321)), True)
        self.assertIs(keeps_order(turned(2, code, other, 4321)), False)
        table = Table(2, *zip(code, other[:2000] + other[2000:4000][::-1] + other[4000:]))
        self.assertIs(is_round_break(table, round_break(table)), True)
        self.assertIs(is_order_break(table, order_break(table)), True)

    def test_values_of_other_kinds(self):
        breaks = {is_order_break: ((0, "", "0"), (0, "1", "0")), is_round_break: round_break(LAST)}
        for judge, right in breaks.items():
            for table in (FLIP, LAST, SPLIT):
                for value in changed(right):
                    size = 2 if judge is is_order_break else 3
                    fits = isinstance(value, tuple) and len(value) == size and plain_break(table, value)
                    self.assertIs(judge(table, value), fits)
        self.assertIs(is_order_break(FLIP, ((False, "", "0"), (0, "", "1"))), False)
        self.assertIs(is_order_break(FLIP, ((0, "", "0"), (1, "", "1"))), False)
        self.assertIs(is_order_break(FLIP, [(0, "", "0"), (0, "", "1")]), False)
        self.assertIs(is_order_break(FLIP, ((0, "", "00"), (0, "", "1"))), False)


class FixedTest(Case):

    def test_fixed_streams(self):
        streams = {base: all_streams(base, (0, 1, 2, 3), 3 if base == 2 else 1, 4 if base == 2 else 2)
                   for base in (2, 3, 4, 5)}
        for table in some_tables():
            prefixes, lone = fixed_prefixes(table), lone_fixed_streams(table)
            self.assertEqual([prefixes, lone], [tuple(sorted(prefixes)), tuple(sorted(set(lone)))])
            for prefix in prefixes:
                self.assertEqual(table[prefix], prefix)
                family = [(prefix[0], prefix[1][:-1] + digit) for digit in "01234"[:table.base]]
                self.assertFalse(prefix[1] and all(part in prefixes for part in family))
            for stream in lone:
                self.assertTrue(plain_stream(table.base, table.left_roots, stream))
                self.assertEqual(table(stream), stream)
            for stream in streams[table.base]:
                if stream[0] < table.left_roots:
                    under = [prefix for prefix in prefixes if prefix[0] == stream[0]
                             and plain_beginning(stream, len(prefix[1])) == prefix[1]]
                    self.assertLessEqual(len(under), 1)
                    self.assertEqual(table(stream) == stream, bool(under) or stream in lone)
                    self.assertFalse(under and stream in lone)

    def test_order_of_lone_streams_is_that_of_tuples(self):
        # As tuples the head of 0 (1) is after the empty head, as digits 0111.. comes before 1010..
        table = Table(2, ((0, "0"), (0, "00")), ((0, "10"), (0, "01")), ((0, "11"), (0, "1")))
        self.assertEqual(lone_fixed_streams(table), ((0, "", "0"), (0, "", "1")))
        table = Table(2, ((0, "01"), (0, "011")), ((0, "00"), (0, "00")), ((0, "10"), (0, "1010")),
                      ((0, "110"), (0, "010")), ((0, "1110"), (0, "1011")), ((0, "11110"), (0, "100")),
                      ((0, "11111"), (0, "11")))
        self.assertEqual(lone_fixed_streams(table), ((0, "", "1"), (0, "", "10"), (0, "0", "1")))
        self.assertEqual(fixed_prefixes(table), ((0, "00"),))

    def test_fixed_prefixes_of_rows_that_are_not_least(self):
        rows = [((0, word), (0, word)) for word in ("000", "001", "01", "10")]
        rows = rows + [((0, "11"), (1, "")), ((1, ""), (0, "11"))]
        self.assertEqual(fixed_prefixes(Table(2, *rows)), ((0, "0"), (0, "10")))
        self.assertEqual(fixed_prefixes(Table.identity(3, roots=2)), ((0, ""), (1, "")))
        self.assertEqual(fixed_prefixes(SPLIT), ())
        self.assertEqual(lone_fixed_streams(SPLIT), ((0, "", "0"),))

    def test_long_words(self):
        word = "0111" * 300
        code = code_through(2, 1, (0, word))
        rows = [(prefix, prefix) for prefix in code if prefix[1][:-1] != word[:-1]]
        rows = rows + [((0, word[:-1] + "0"), (0, word)), ((0, word), (0, word[:-1] + "0"))]
        self.assertEqual(len(fixed_prefixes(Table(2, *rows))), len(code) - 2)
        self.assertEqual(lone_fixed_streams(Table(2, *rows)), ())
        grown = Table(2, *zip(code, code_through(2, 1, (0, "1" * 1200))))
        for stream in lone_fixed_streams(grown):
            self.assertEqual(grown(stream), stream)


class MovedTest(Case):

    def test_moved_prefixes(self):
        for table in some_tables():
            found = moved_prefix(table)
            self.assertEqual(found is None, not table)
            if found is not None:
                self.assertTrue(plain_moved(table, found))
                self.assertIs(is_moved_prefix(table, found), True)
                self.assertIs(is_moved_prefix(~table, found[::-1]), True)

    def test_moved_prefixes_of_others_are_judged(self):
        for table in some_tables()[:80]:
            words = all_words(table.base, 3 if table.base == 2 else 2)
            images = [(0, ""), (0, "0"), (0, "1"), (1, "0"), (0, "10"), (3, "01")]
            for prefix in [(root, word) for root in range(3) for word in words]:
                taken = table.takes(prefix) if prefix[0] < table.left_roots else None
                for image in images + [taken]:
                    self.assertIs(is_moved_prefix(table, (prefix, image)), plain_moved(table, (prefix, image)))
        self.assertIs(is_moved_prefix(G, ((0, "10"), (0, "110"))), True)
        self.assertIs(is_moved_prefix(G, ((0, "11"), (0, "111"))), False)
        self.assertIs(is_moved_prefix(G, ((0, "0"), (0, "1"))), False)
        self.assertIs(is_moved_prefix(G, ((0, "01" * 900), (0, "10" + "01" * 899))), True)

    def test_values_of_other_kinds(self):
        for table, right in ((G, ((0, "01"), (0, "10"))), (SPLIT, ((0, "1"), (1, "")))):
            for value in changed(right):
                self.assertIs(is_moved_prefix(table, value), plain_moved(table, value), value)
        self.assertIs(is_moved_prefix(G, ((False, "01"), (0, "10"))), False)
        self.assertIs(is_moved_prefix(G, ((0, "01"), (False, "10"))), False)
        self.assertIs(is_moved_prefix(SPLIT, ((0, "1"), (True, ""))), False)
        self.assertIs(is_moved_prefix(G, [(0, "01"), (0, "10")]), False)


class ErrorsTest(Case):

    def test_errors(self):
        for value in NO_TABLES:
            for call in FUNCTIONS:
                self.check_error(InvalidTable, KEEPS_NOTHING, call, value)
            for call in JUDGES:
                self.check_error(InvalidTable, KEEPS_NOTHING, call, value, None)

    def test_judges_take_every_value(self):
        for judge in JUDGES:
            for table in (F, SPLIT, GATHER):
                for value in NO_TABLES + [F, (F, F), ((0, "", "0"), F), (make_stream(2, 0, "", "0"),) * 3]:
                    self.assertIs(judge(table, value), False)


if __name__ == "__main__":
    unittest.main()
