"""[10.3], [10.4] and the functions of prefixtable.graphs.circles."""

import math
import random
import unittest

from prefixtable.base.streams import make_stream
from prefixtable.errors import InvalidOperation, InvalidTable, TooMany
from prefixtable.graphs.circles import growing_circles, loop_lengths, order, shrinking_circles
from prefixtable.orders.growth import growth
from prefixtable.orders.orbits import limit_cycle, return_time
from prefixtable.orders.orders import cycles_of, least_permuted_code
from prefixtable.tables.building import beside, beside_all, cycle_of
from prefixtable.tables.table import Table
from changes import chance_change, chance_reduced_graph, plain_circles, least_rotation
from graphs import drawn_tables, with_more_roots
from small import (
    LONG, LONG_GROWTH, LONG_THREE, NOT_SQUARE, ROOT_GROWTH, TWO_ROOTS, WORD_GROWTH, counter, small_tables)
from support import KEEPS_NOTHING, Case, all_streams
from tables import FLIP, LAST, NO_TABLES, F, G
from test_regions import SIXTY_ONE

CALLS = [growing_circles, shrinking_circles, loop_lengths, order]


def told_of(table):
    """Return what all four functions tell of a table."""
    return [call(table) for call in CALLS]


def circle_of_roots(many, base=2):
    """Return the table that takes each of so many roots to the next one."""
    return Table(base, *[((root, ""), ((root + 1) % many, "")) for root in range(many)])


def circle_table(base, word, length):
    """Return a table that takes roots in a circle and adds a word behind them; one more root has what comes beside it."""
    rows = [((root, ""), (root + 1, "")) for root in range(length - 1)] + [((length - 1, ""), (0, word))]
    for at, digit in enumerate(word):
        free = [other for other in "01234"[:base] if other != digit]
        rows.extend(((length, "0" * at + door), (0, word[:at] + other)) for door, other in zip("1234", free))
    return Table(base, *rows, ((length, "0" * len(word)), (length, "")))


class ExamplesTest(Case):

    def test_printed_examples(self):
        self.assertEqual([growing_circles(G), shrinking_circles(G), loop_lengths(G), loop_lengths(F),
                          growing_circles(F)], [((1, "1"),), ((1, "0"),), {}, {5: 1}, ()])
        self.assertEqual([order(F), order(G), order(Table.identity(3, roots=2))], [5, None, 1])


class CirclesTest(Case):

    def test_circles_that_were_followed_by_hand(self):
        table = circle_table(2, "10110", 3)
        self.assertEqual(told_of(table), [((3, "01011"),), ((1, "00000"),), {}, None])
        self.assertEqual(told_of(~table), [((1, "00000"),), ((3, "01011"),), {}, None])
        self.assertEqual(growing_circles(LONG_GROWTH), ((64, "1"),))
        self.assertEqual(shrinking_circles(LONG_GROWTH), ((64, "0"),))
        self.assertEqual(growing_circles(beside(G, LONG, ~G)), ((1, "0"), (1, "1")))
        self.assertEqual(told_of(beside(G, LONG, G, FLIP)), [((1, "1"), (1, "1")), ((1, "0"), (1, "0")),
                                                             {2: 1, 256: 1}, None])

    def test_words_are_smallest_rotations(self):
        for base in (2, 3, 4, 5):
            last = str(base - 1)
            for word in ("10", "110", "0110", "1011", "101101", "11", "1", "0", last + "0", "1" + last + "0" + last):
                for length in (1, 2, 4):
                    table = circle_table(base, word, length)
                    told = ((length, least_rotation(word)),)
                    self.assertEqual([growing_circles(table), shrinking_circles(~table)], [told, told])
                    self.assertEqual(shrinking_circles(table), ((1, "0" * len(word)),))
                    turned = circle_table(base, word[1:] + word[:1], length)
                    self.assertEqual(growing_circles(turned), told)

    def test_several_circles(self):
        parts = [("10", 2), ("1", 1), ("01", 2), ("110", 1), ("2", 3), ("1", 3), ("10", 1), ("1", 1)]
        one = beside(circle_table(3, "012", 1), WORD_GROWTH)
        self.assertEqual(growing_circles(beside(one, ~one)), tuple(sorted(growing_circles(one) + shrinking_circles(one))))
        for base in (3, 4, 5):
            table = beside_all(tuple(circle_table(base, word, length) for word, length in parts[::2]))
            self.assertEqual(growing_circles(table), ((1, "01"), (2, "01"), (2, "01"), (3, "2")))
            self.assertEqual(shrinking_circles(table), ((1, "0"), (1, "00"), (1, "00"), (1, "00")))
            table = beside_all(tuple(circle_table(base, word, length) for word, length in parts[1::2]))
            self.assertEqual(growing_circles(table), ((1, "011"), (1, "1"), (1, "1"), (3, "1")))
        for many in (2, 3, 7):
            self.assertEqual(growing_circles(beside_all((G,) * many)), ((1, "1"),) * many)

    def test_circles_by_the_definition(self):
        chance = random.Random(1)
        kinds = []
        for table in drawn_tables(41, 300, 30):
            graph = chance_reduced_graph(chance, table)
            told = told_of(table)
            self.assertEqual(told[:2], [plain_circles(graph, "merge"), plain_circles(graph, "split")])
            self.assertEqual(list(told[2].items()), list(graph[3]))
            kinds.append((len(told[0]), len(told[1])))
        self.assertGreater(len(set(kinds)), 5)
        self.assertGreater(max(kinds)[0], 2)

    def test_circles_do_not_change_under_recodings(self):
        chance = random.Random(2)
        for table in small_tables(42, 100) + [circle_table(3, "0110", 2), circle_table(5, "43", 3)]:
            told = told_of(table)
            for _ in range(3):
                change = chance_change(chance, table.base, table.left_roots, chance.randrange(1, 6))
                other = with_more_roots(chance, change * table * ~change, chance.randrange(3))
                if len(other) <= 60:
                    self.assertEqual(told_of(other), told)
            self.assertEqual(told_of(~table), [told[1], told[0], told[2], told[3]])

    def test_circles_and_limit_cycles(self):
        for table in small_tables(43, 60):
            streams = all_streams(table.base, range(table.left_roots), 3 if table.base == 2 else 2, 1)
            if growth(table) is not None:
                (root, start), _, word = growth(table)
                streams.append(make_stream(table.base, root, start + ("1" if word[0] == "0" else "0"), "01"))
            cycles = {limit_cycle(table, stream) for stream in streams if return_time(table, stream) is None}
            told = [(len(cycle), {least_rotation(period) for _, _, period in cycle}) for cycle in cycles]
            circles = list(growing_circles(table))
            self.assertEqual(bool(cycles), bool(circles))
            for length, periods in told:
                # The word of a circle may repeat the period of its streams.
                fits = [(many, word) for many, word in circles if many == length
                        and [period for period in periods if period * (len(word) // len(period)) == word]]
                self.assertTrue(fits, (table.rows, length, periods))
                circles.remove(fits[0])


class LoopsTest(Case):

    def test_counts_are_below_the_base(self):
        for base in (2, 3, 4, 5):
            for many in range(1, 3 * base + 2):
                left = (many - 1) % (base - 1) + 1
                self.assertEqual(loop_lengths(Table.identity(base, roots=many)), {1: left})
                self.assertEqual(loop_lengths(beside_all((circle_of_roots(3, base),) * many)), {3: left})
        self.assertEqual(list(loop_lengths(beside(*[circle_of_roots(many, 5) for many in (4, 2, 9, 2, 1)])).items()),
                         [(1, 1), (2, 2), (4, 1), (9, 1)])
        self.assertEqual(loop_lengths(F), {5: 1})

    def test_loops_and_cycles_of_codes(self):
        for table in small_tables(44, 200):
            code = least_permuted_code(table)
            told = loop_lengths(table)
            self.assertTrue(all(0 < count < table.base for count in told.values()))
            self.assertEqual(list(told), sorted(told))
            if code is not None:
                lengths = [len(cycle) for cycle in cycles_of(table, code)]
                self.assertEqual(told, {length: (lengths.count(length) - 1) % (table.base - 1) + 1
                                        for length in sorted(set(lengths))})
                self.assertEqual([growing_circles(table), shrinking_circles(table)], [(), ()])


class OrderTest(Case):

    def test_orders_of_small_tables(self):
        for table in small_tables(45, 200):
            code = least_permuted_code(table)
            lengths = [] if code is None else [len(cycle) for cycle in cycles_of(table, code)]
            self.assertEqual(order(table), math.lcm(*lengths) if lengths else None)

    def test_permutations_of_codes(self):
        chance = random.Random(3)
        for base, size in ((2, 60), (3, 59), (4, 58), (5, 57), (2, 13)):
            code = [(0, "1" * at + digit) for at in range((size - 1) // (base - 1))
                    for digit in "01234"[:base] if digit != "1"]
            code.append((0, "1" * ((size - 1) // (base - 1))))
            for _ in range(5):
                images = chance.sample(code, len(code))
                table = Table(base, *zip(code, images))
                way, lengths = dict(zip(code, images)), []
                while way:
                    at, length = next(iter(way)), 0
                    while at in way:
                        at, length = way.pop(at), length + 1
                    lengths.append(length)
                self.assertEqual(order(table), math.lcm(*lengths))
        chosen = [(0, "1" * at + "0") for at in range(59)] + [(0, "1" * 59)]
        self.assertEqual(order(cycle_of(2, 1, tuple(chosen))), 60)

    def test_orders_of_any_size(self):
        for digits in (1, 8, 20, 59):
            self.assertEqual(order(counter(2, digits)), 2 ** digits)
        self.assertEqual(order(beside(counter(2, 52), circle_of_roots(7))), 7 * 2 ** 52)
        self.assertEqual(order(beside(counter(3, 20), circle_of_roots(14, 3))), 14 * 3 ** 20)
        self.assertEqual(order(beside(counter(5, 10), circle_of_roots(12, 5))), 12 * 5 ** 10)
        parts = beside_all(tuple(circle_of_roots(many) for many in (4, 9, 5, 7, 11, 13)))
        self.assertEqual([len(parts), order(parts)], [49, 4 * 9 * 5 * 7 * 11 * 13])
        self.assertEqual(order(beside(parts, counter(2, 10))), 1024 * 9 * 5 * 7 * 11 * 13)

    def test_tables_without_a_finite_order(self):
        for table in (G, ~G, LONG_GROWTH, ROOT_GROWTH, WORD_GROWTH, beside(F, G), beside(G, counter(2, 40)), G ** 7):
            self.assertIsNone(order(table))
            self.assertTrue(growing_circles(table) and shrinking_circles(table))
        self.assertEqual([order(LONG), order(LONG_THREE), order(TWO_ROOTS), order(LAST)], [256, 81, 3, 2])

    def test_powers_with_the_order_change_nothing(self):
        for table in drawn_tables(46, 150, 12):
            told = order(table)
            if told is not None and told <= 64:
                self.assertFalse(table ** told)
                self.assertFalse([n for n in range(1, told) if not table ** n])
            if told is None:
                self.assertTrue(growing_circles(table) and shrinking_circles(table))


class ErrorsTest(Case):

    def test_tables_of_60_and_61_rows(self):
        for call in CALLS:
            self.check_error(TooMany, 60, call, SIXTY_ONE)
            self.check_error(TooMany, 60, call, Table.identity(3, roots=61))
        self.assertEqual(told_of(Table.identity(2, roots=60)), [(), (), {1: 1}, 1])
        self.assertEqual(len(counter(2, 59)), 60)
        self.assertEqual(told_of(counter(2, 59)), [(), (), {2 ** 59: 1}, 2 ** 59])
        table = beside_all((G,) * 20)
        self.assertEqual([len(table), told_of(table)], [60, [((1, "1"),) * 20, ((1, "0"),) * 20, {}, None]])

    def test_errors(self):
        for call in CALLS:
            for value in NO_TABLES:
                self.check_error(InvalidTable, KEEPS_NOTHING, call, value)
            for table in NOT_SQUARE:
                self.check_error(InvalidOperation, KEEPS_NOTHING, call, table)
            long = Table(2, *[((0, "1" * at + "0"), (at, "")) for at in range(70)], ((0, "1" * 70), (70, "")))
            self.check_error(InvalidOperation, KEEPS_NOTHING, call, long)


if __name__ == "__main__":
    unittest.main()
