"""[8.2]: first_returns, never_back and return_map of prefixtable.sets.regions."""

import random
import unittest

from prefixtable.base.streams import begins_with, replaced
from prefixtable.errors import InvalidNumber, InvalidOperation, InvalidRegion, InvalidTable, TooMany
from prefixtable.sets.regions import Region, first_returns, never_back, return_map
from prefixtable.tables.building import within
from prefixtable.tables.table import Table
from small import (
    FIVE, LONG, NOT_SQUARE, ROOT_GROWTH, TEN, TWO_ROOTS, WORD_GROWTH, small_tables)
from support import KEEPS_NOTHING, Case, chance_rows, chance_streams
from tables import FLIP, LAST, NO_TABLES, F, G
from test_building import plain_apart
from test_codes import comb_code
from test_regions import NO_REGIONS, SIXTY_ONE, ZERO, chance_prefixes, plain_least_prefixes, streams_of, under

FUNCTIONS = [first_returns, never_back, return_map]


def plain_back(table, region, stream, most):
    """Return after how many steps a stream comes back to a region, and where, or (None, None)."""
    at = stream
    for steps in range(1, most + 1):
        at = table(at)
        if at in region:
            return steps, at
    return None, None


def cases(seed, many):
    """Return tuples of a square table, a region, and a greatest number of steps."""
    chance = random.Random(seed)
    found = []
    for table in small_tables(seed, many):
        for _ in range(2):
            prefixes = chance_prefixes(chance, table.base, table.left_roots, chance.randrange(6), 3)
            region = Region(table.base, table.left_roots, *prefixes)
            found.append((table, region, chance.choice((1, 2, 3, 7, 20, 60))))
    for _ in range(many // 4):
        base = chance.randrange(2, 6)
        table = Table(base, *chance_rows(chance, base, 2, 2, chance.randrange(20, 60)))
        if len(table) <= 60:
            found.append((table, Region(base, 2, *chance_prefixes(chance, base, 2, 9, 3)), 5))
    return found


CASES = cases(1, 120)


class ExamplesTest(Case):

    def test_printed_examples(self):
        self.assertEqual([first_returns(F, ZERO, most=4), first_returns(G, ZERO, most=4),
                          never_back(G, ZERO, most=4).prefixes],
                         [(((0, "00"), 2, (0, "01")), ((0, "01"), 3, (0, "00"))), (((0, "00"), 1, (0, "0")),),
                          ((0, "01"),)])
        self.assertEqual(return_map(F, ZERO, most=3), FLIP)
        self.check_error(InvalidOperation, KEEPS_NOTHING, return_map, G, Region(2, 1, (0, "1")), most=1)


class ReturnsTest(Case):

    def check_streams(self, table, region, most, streams):
        told = first_returns(table, region, most=most)
        away = never_back(table, region, most=most)
        for stream in streams:
            steps, at = plain_back(table, region, stream, most) if stream in region else (None, None)
            above = [row for row in told if begins_with(table.base, stream, row[0])]
            self.assertEqual(len(above), 0 if steps is None else 1)
            self.assertIs(stream in away, stream in region and steps is None)
            for start, count, end in above:
                self.assertEqual([count, replaced(table.base, stream, start, end)], [steps, at])

    def test_returns_of_single_streams(self):
        chance = random.Random(2)
        for table, region, most in CASES:
            streams = streams_of(table.base, table.left_roots)
            streams = streams[::max(1, len(streams) // 40)]
            streams = streams + chance_streams(chance, table.base, table.left_roots, 15)
            self.check_streams(table, region, most, streams)

    def test_returns_are_least(self):
        for table, region, most in CASES:
            told = first_returns(table, region, most=most)
            self.assertEqual(told, tuple(sorted(told)))
            for one, other in zip(told, told[1:]):
                self.assertTrue(plain_apart(one[0], other[0]))
            for (root, word), steps, (end_root, end) in told:
                family = [((root, word[:-1] + digit), steps, (end_root, end[:-1] + digit))
                          for digit in "01234"[:table.base]]
                self.assertFalse(word and end and all(row in told for row in family))
                self.assertTrue(region.has_prefix((root, word)) and region.has_prefix((end_root, end)))
                self.assertTrue(1 <= steps <= most)
            back = Region(table.base, table.left_roots, *[start for start, _, _ in told])
            away = never_back(table, region, most=most)
            self.assertEqual([back | away, len(back & away)], [region, 0])
            self.assertEqual(away.prefixes, plain_least_prefixes(table.base, away.prefixes))

    def test_returns_with_steps_that_are_joined(self):
        self.assertEqual(first_returns(LONG, Region(2, 1, (0, "0" * 8)), most=60), ())
        self.assertEqual(never_back(LONG, Region(2, 1, (0, "0" * 8)), most=60).prefixes, ((0, "0" * 8),))
        self.assertEqual(first_returns(LONG, ZERO, most=60)[-1], ((0, "01111111"), 2, (0, "00000000")))
        whole = Region.whole(2, 1)
        self.assertEqual(first_returns(G, whole, most=60), tuple((left, 1, right) for left, right in G.rows))
        self.assertEqual(first_returns(FLIP, ZERO, most=1), ())
        self.assertEqual(first_returns(FLIP, ZERO, most=2), (((0, "0"), 2, (0, "0")),))
        self.assertEqual(first_returns(Table.identity(3, roots=2), Region(3, 2, (1, "2")), most=60),
                         (((1, "2"), 1, (1, "2")),))
        self.assertEqual(first_returns(F, Region(2, 1), most=60), ())

    def test_equal_ends_with_other_numbers_of_steps_are_not_joined(self):
        # The streams of the root 0 that go on with 1 take one step more, and come back just beside the other ones.
        table = Table(2, ((0, "0"), (0, "0")), ((0, "1"), (1, "1")), ((1, "1"), (0, "1")), ((1, "0"), (1, "0")))
        region = Region(2, 2, (0, ""))
        self.assertEqual(first_returns(table, region, most=2), (((0, "0"), 1, (0, "0")), ((0, "1"), 2, (0, "1"))))
        self.assertEqual(return_map(table, region, most=2), Table.identity(2))

    def test_many_returns(self):
        region = Region(2, 1, *under("0", 2500), *under("1", 2500))
        told = first_returns(Table.identity(2), region, most=3)
        self.assertEqual(told, tuple((prefix, 1, prefix) for prefix in region.prefixes))
        self.assertEqual(return_map(Table.identity(2), region, most=3), Table.identity(2, roots=5000))
        flipped = return_map(FLIP, region, most=1)
        self.assertEqual([len(flipped), flipped.left_roots, flipped[7, ""]], [5000, 5000, (2507, "")])

    def test_many_prefixes_that_stay_away(self):
        # All streams under 1 but few go to streams that are not in the region, and come back from there.
        for many, fits in ((5000, True), (5001, False)):
            region = Region(2, 1, (0, "1"), (0, "0" * (many + 1)))
            ends = ((0, "0" * (many + 1)), (0, "1" + "0" * many))
            self.assertEqual(first_returns(FLIP, region, most=1), ((ends[0], 1, ends[1]), (ends[1], 1, ends[0])))
            if fits:
                self.assertEqual(len(never_back(FLIP, region, most=1)), 5000)
            else:
                self.check_error(TooMany, 5000, never_back, FLIP, region, most=1)
            self.assertEqual(len(never_back(FLIP, region, most=2)), 0)
            self.assertEqual(len(first_returns(FLIP, region, most=2)), many + 2)


class ReturnMapTest(Case):

    def check_map(self, table, region, most, streams):
        told = return_map(table, region, most=most)
        self.assertEqual([told.left_roots, told.right_roots], [len(region), len(region)])
        for stream in streams:
            for root, prefix in enumerate(region.prefixes):
                if begins_with(table.base, stream, prefix):
                    _, at = plain_back(table, region, stream, most)
                    under_root = replaced(table.base, stream, prefix, (root, ""))
                    goals = [(number, goal) for number, goal in enumerate(region.prefixes)
                             if begins_with(table.base, at, goal)]
                    self.assertEqual(told(under_root), replaced(table.base, at, goals[0][1], (goals[0][0], "")))

    def test_return_maps(self):
        chance = random.Random(3)
        maps = 0
        for table, region, most in CASES:
            streams = chance_streams(chance, table.base, table.left_roots, 30)
            told = first_returns(table, region, most=most)
            ends = Region(table.base, table.left_roots, *[end for _, _, end in told])
            if region and not never_back(table, region, most=most) and ends == region:
                self.check_map(table, region, most, streams)
                maps = maps + 1
            else:
                self.check_error(InvalidOperation, KEEPS_NOTHING, return_map, table, region, most=most)
        self.assertGreater(maps, 50)

    def test_least_rows_of_maps(self):
        self.assertEqual(return_map(LONG, ZERO, most=2).left_roots, 1)
        for table in (F, G, FIVE, TWO_ROOTS, WORD_GROWTH, ROOT_GROWTH):
            whole = Region.whole(table.base, table.left_roots)
            self.assertEqual(return_map(table, whole, most=1), table)
        self.assertEqual(return_map(F, Region(2, 1, (0, "00"), (0, "10")), most=5),
                         Table(2, ((0, ""), (1, "")), ((1, ""), (0, ""))))
        self.assertEqual(return_map(LAST, Region(2, 1, (0, "0")), most=1), Table.identity(2))

    def test_too_many_rows(self):
        code = comb_code(2, 58)
        table = within(Table(2, *zip(code, code[1:] + code[:1])), 1, (0, "0"))
        self.assertEqual(len(table), 59)
        for many, fits in ((4942, True), (4943, False)):
            region = Region(2, 1, (0, "0"), *under("1", many))
            if fits:
                self.assertEqual(len(return_map(table, region, most=1)), 5000)
            else:
                self.check_error(TooMany, 5000, return_map, table, region, most=1)
            self.assertEqual(len(first_returns(table, region, most=1)), many + 58)


class ErrorsTest(Case):

    def test_errors(self):
        for call in FUNCTIONS:
            for value in NO_TABLES:
                self.check_error(InvalidTable, KEEPS_NOTHING, call, value, None, most=None)
            for table in NOT_SQUARE:
                self.check_error(InvalidOperation, KEEPS_NOTHING, call, table, None, most=None)
            for value in NO_REGIONS + [Region(3, 1), Region(2, 2)]:
                self.check_error(InvalidRegion, KEEPS_NOTHING, call, SIXTY_ONE, value, most=None)
            for most in (0, -1, 61, 10 ** 59, True, False, None, "1", (1,), [], F):
                self.check_error(InvalidNumber, most, call, F, ZERO, most=most)
                self.check_error(InvalidNumber, most, call, SIXTY_ONE, Region(2, 1), most=most)
            self.check_error(TooMany, 60, call, SIXTY_ONE, ZERO, most=1)
            self.check_error(TooMany, 60, call, SIXTY_ONE, Region(2, 1), most=60)
            call(TEN, Region.whole(2, 1), most=60)

    def test_return_map_is_not_there(self):
        for most in (1, 60):
            self.check_error(InvalidOperation, KEEPS_NOTHING, return_map, F, Region(2, 1), most=most)
            # All streams under 1 come back, but not all of them are come back to; the other way round for the inverse.
            self.check_error(InvalidOperation, KEEPS_NOTHING, return_map, G, Region(2, 1, (0, "1")), most=most)
            self.check_error(InvalidOperation, KEEPS_NOTHING, return_map, ~G, Region(2, 1, (0, "1")), most=most)
        self.assertEqual(len(never_back(G, Region(2, 1, (0, "1")), most=1)), 0)
        self.assertEqual(never_back(~G, Region(2, 1, (0, "1")), most=60).prefixes, ((0, "10"),))
        self.check_error(InvalidOperation, KEEPS_NOTHING, return_map, F, ZERO, most=2)


if __name__ == "__main__":
    unittest.main()
