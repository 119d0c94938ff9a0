"""[7.1] to [7.4] and the functions of prefixtable.orders.orbits."""

import random
import unittest

from prefixtable.base.streams import make_stream, precedes
from prefixtable.errors import InvalidNumber, InvalidOperation, InvalidStream, InvalidTable, TooMany
from prefixtable.orders import orbits
from prefixtable.orders.growth import growth
from prefixtable.orders.orbits import (
    exponent, germ, is_orbit_certificate, limit_cycle, orbit_certificate, path, return_time)
from prefixtable.tables.table import Table
from small import (
    FIVE, LONG, LONG_GROWTH, NOT_SMALL, NOT_SQUARE, ROOT_GROWTH, TEN, TWO_ROOTS, WORD_GROWTH, plain_growth, plain_taken,
    small_tables)
from support import (
    KEEPS_NOTHING, OTHER_VALUES, Case, all_streams, chance_streams, changed, plain_beginning)
from tables import FLIP, LAST, NO_TABLES, F, G
from test_streams import NO_STREAMS

X, Z = (0, "0", "1"), (0, "", "0")
ONE_STREAM = [lambda table, x: next(path(table, x)), orbit_certificate, return_time, limit_cycle,
              lambda table, x: is_orbit_certificate(table, x, None), lambda table, x: germ(table, x, 0),
              lambda table, x: exponent(table, x, (0, "", "0")), lambda table, x: exponent(table, (0, "", "0"), x)]
TABLES = small_tables(7, 150)


def with_streams(seed, many):
    """Return triples of a table, a stream that it takes, and a generator of chances."""
    chance = random.Random(seed)
    found = []
    for table in TABLES:
        streams = all_streams(2, (0,), 1, 2) + chance_streams(chance, table.base, table.left_roots, many)
        thing = growth(table)
        if thing:
            streams.append(make_stream(5, thing[0][0], thing[0][1], thing[2]))
            streams.append(make_stream(5, thing[0][0], thing[0][1] + "1", "0"))
        found.extend((table, stream, chance) for stream in streams if max(len(stream[1]), len(stream[2])) <= 30)
    return found


def plain_orbit(table, stream, count):
    """Return the first streams of an orbit, one after another."""
    found = [stream]
    while len(found) < count:
        found.append(table(found[-1]))
    return found


def plain_return(table, stream):
    """Return the least number of steps back, by the definition and the bound of 256."""
    later = plain_orbit(table, stream, 257)[1:]
    return later.index(stream) + 1 if stream in later else None


def plain_certificate(table, stream, value):
    """Tell by the definition whether a value is an orbit certificate."""
    if not isinstance(value, tuple) or len(value) not in (2, 3) or type(value[1]) is not int:
        return False
    if len(value) == 2:
        return value[0] == "returns" and value[1] == plain_return(table, stream)
    if value[0] != "runs" or not 0 <= value[1] <= 20000 or not plain_growth(table, value[2]):
        return False
    (root, word), _, more = value[2]
    at = plain_orbit(table, stream, value[1] + 1)[-1]
    return at[0] == root and plain_beginning(at, len(word)) == word and at != make_stream(5, root, word, more)


class ExamplesTest(Case):

    def test_printed_examples(self):
        self.assertEqual([stream for index, stream in zip(range(3), path(G, X))],
                         [(0, "0", "1"), (0, "10", "1"), (0, "110", "1")])
        self.assertEqual([orbit_certificate(G, Z), is_orbit_certificate(G, X, ("runs", 1, ((0, "1"), 1, "1"))),
                          is_orbit_certificate(G, X, ("runs", 0, ((0, "1"), 1, "1")))], [("returns", 1), True, False])
        self.assertEqual([return_time(G, Z), return_time(G, X), limit_cycle(G, X)], [1, None, ((0, "", "1"),)])
        self.assertEqual([exponent(G, X, (0, "110", "1")), exponent(G, (0, "110", "1"), X), exponent(G, X, Z)],
                         [2, -2, None])
        self.assertEqual([germ(G, X, 2), germ(G, Z, -1), germ(FLIP, Z, 2)],
                         [((0, "01"), (0, "110")), ((0, "0"), (0, "00")), ((0, "0"), (0, "0"))])
        self.assertEqual([orbits.MAX_HEAD, orbits.MAX_WAIT], [30, 20000])


class PathTest(Case):

    def test_paths(self):
        for table, stream, _ in with_streams(1, 6):
            told = [at for _, at in zip(range(12), path(table, stream))]
            self.assertEqual(told, plain_orbit(table, stream, 12))

    def test_in_part_and_twice_at_once(self):
        one, other = path(G, X), path(G, X)
        told = plain_orbit(G, X, 4)
        self.assertEqual([next(one), next(one), next(other), next(one), next(other)],
                         [told[0], told[1], told[0], told[2], told[1]])

    def test_long_paths(self):
        for count, at in enumerate(path(G, X)):
            if count == 20000:
                break
        self.assertEqual(at, (0, "1" * 20000 + "0", "1"))


class CertificateTest(Case):

    def test_certificates(self):
        kinds = []
        for table, stream, _ in with_streams(2, 6):
            told = orbit_certificate(table, stream)
            kinds.append(told[0])
            self.assertTrue(plain_certificate(table, stream, told), (table.rows, stream, told))
            self.assertIs(is_orbit_certificate(table, stream, told), True)
            self.assertEqual(return_time(table, stream), told[1] if told[0] == "returns" else None)
            self.assertEqual(plain_return(table, stream), return_time(table, stream))
        self.assertTrue(min(kinds.count("returns"), kinds.count("runs")) > 300)

    def test_streams_that_wait_long(self):
        stream = make_stream(2, 0, "0" * 30, "0" * 29 + "1")
        told = orbit_certificate(LONG_GROWTH, stream)
        self.assertGreater(told[1], 3000)
        self.assertIs(is_orbit_certificate(LONG_GROWTH, stream, told), True)
        self.assertIs(is_orbit_certificate(LONG_GROWTH, stream, ("runs", told[1] + 64, told[2])), True)
        for count in (told[1] - 1, told[1] + 1, 0, 64):
            self.assertIs(is_orbit_certificate(LONG_GROWTH, stream, ("runs", count, told[2])), False)
        self.assertIs(is_orbit_certificate(LONG_GROWTH, stream, ("returns", 64)), False)
        self.assertIsNone(return_time(LONG_GROWTH, stream))
        turned = make_stream(2, 0, "1" * 30, "1" * 29 + "0")
        self.assertGreater(orbit_certificate(~LONG_GROWTH, turned)[1], 3000)

    def test_long_returns(self):
        for stream in ((0, "", "0"), (0, "01101", "100"), make_stream(2, 0, "1" * 30, "1" * 29 + "0")):
            self.assertEqual(orbit_certificate(LONG, stream), ("returns", 256))
            self.assertIs(is_orbit_certificate(LONG, stream, ("returns", 256)), True)
            for count in (1, 128, 255, 257, 512, 0, -256):
                self.assertIs(is_orbit_certificate(LONG, stream, ("returns", count)), False)
        for stream in ((0, "", "0"), (0, "", "1")):
            self.assertEqual(orbit_certificate(LONG_GROWTH, stream), ("returns", 64))

    def test_certificates_of_others(self):
        for count, fits in ((1, True), (2, True), (19999, True), (20000, True), (20001, False), (0, False), (-1, False)):
            self.assertIs(is_orbit_certificate(G, X, ("runs", count, ((0, "1"), 1, "1"))), fits)
        for told, fits in ((((0, "11"), 1, "1"), False), (((0, "11"), 1, "1"), False), (((0, "1"), 256, "1" * 256), True),
                           (((0, "1"), 257, "1" * 257), False), (((0, "0"), 1, "0"), False), (None, False)):
            self.assertIs(is_orbit_certificate(G, X, ("runs", 1, told)), fits)
        self.assertIs(is_orbit_certificate(G, X, ("runs", 2, ((0, "11"), 1, "1"))), True)
        self.assertIs(is_orbit_certificate(G, X, ("runs", 20000, ((0, "1" * 20000), 1, "1"))), True)
        self.assertIs(is_orbit_certificate(G, X, ("runs", 20000, ((0, "1" * 20001), 1, "1"))), False)

    def test_the_stream_of_the_growth_itself_returns(self):
        for stream in ((0, "", "1"),):
            for count in (0, 1, 7):
                self.assertIs(is_orbit_certificate(G, stream, ("runs", count, ((0, "1"), 1, "1"))), False)
            self.assertIs(is_orbit_certificate(G, stream, ("returns", 1)), True)
        for table in (WORD_GROWTH, LONG_GROWTH, ROOT_GROWTH):
            prefix, power, word = growth(table)
            stream = make_stream(table.base, prefix[0], prefix[1], word)
            self.assertIs(is_orbit_certificate(table, stream, ("runs", 0, (prefix, power, word))), False)
            self.assertIs(is_orbit_certificate(table, stream, ("returns", power)), True)
            self.assertIs(is_orbit_certificate(table, stream, ("returns", 2 * power)), False)

    def test_steps_that_make_the_stream_long(self):
        # Each step but the first ones adds seven digits.
        rows = [((0, "0" * at + "1"), (0, "1" * (8 - at) + "0")) for at in range(1, 8)]
        table = Table(2, ((0, "0" * 8), (0, "0")), ((0, "1"), (0, "1" * 8)), *rows)
        self.assertEqual([len(table), growth(table)], [9, ((0, "1"), 1, "1" * 7)])
        self.assertIs(is_orbit_certificate(table, (0, "0", "1"), ("runs", 20000, growth(table))), True)

    def test_other_growths_on_chance(self):
        for table, stream, chance in with_streams(3, 4):
            told = orbit_certificate(table, stream)
            if told[0] == "runs":
                _, count, (prefix, power, word) = told
                others = [(prefix, power * 2, word * 2), ((prefix[0], prefix[1] + word), power, word),
                          (plain_taken(table, prefix), power, word)]
                for other in [(count + more, one) for one in others for more in (0, 1, power, chance.randrange(60))]:
                    self.assertIs(is_orbit_certificate(table, stream, ("runs",) + other),
                                  plain_certificate(table, stream, ("runs",) + other))

    def test_changed_certificates(self):
        for table, stream, right in ((FLIP, X, ("returns", 2)), (G, X, ("runs", 1, ((0, "1"), 1, "1"))),
                                     (TWO_ROOTS, X, orbit_certificate(TWO_ROOTS, X))):
            self.assertIs(is_orbit_certificate(table, stream, right), True)
            for value in changed(right):
                self.assertIs(is_orbit_certificate(table, stream, value), plain_certificate(table, stream, value), value)
        for value in OTHER_VALUES + [F, (F, 1), ("returns", True), ("returns", None), ["returns", 1], ("runs", 1)]:
            self.assertIs(is_orbit_certificate(Table.identity(2), X, value), False)


class LimitCycleTest(Case):

    def check_cycle(self, table, cycle):
        for stream, following in zip(cycle, cycle[1:] + cycle[:1]):
            self.assertEqual(table(stream), following)
            self.assertTrue(stream == cycle[0] or precedes(table.base, cycle[0], stream))
        self.assertEqual(len(set(cycle)), len(cycle))

    def test_limit_cycles(self):
        for table, stream, _ in with_streams(4, 5):
            told = orbit_certificate(table, stream)
            for one in (table, ~table):
                cycle = limit_cycle(one, stream)
                self.check_cycle(one, cycle)
                if told[0] == "returns":
                    self.assertEqual(len(cycle), told[1])
                    self.assertIn(stream, cycle)
            if told[0] == "runs":
                self.check_limit(table, stream, told)

    def check_limit(self, table, stream, told):
        cycle = limit_cycle(table, stream)
        many = told[1] + told[2][1] * 40
        late = plain_orbit(table, stream, many + 1)[-1]
        self.assertEqual(len([at for at in cycle if at[0] == late[0]
                              and plain_beginning(at, 30) == plain_beginning(late, 30)]), 1)
        self.assertNotIn(stream, cycle)

    def test_orbit_of_a_stream_that_returns_in_both_directions(self):
        for table, stream in ((LONG, (0, "", "0")), (F, X), (TWO_ROOTS, X), (FIVE, (0, "", "4"))):
            cycle, back = limit_cycle(table, stream), limit_cycle(~table, stream)
            self.assertEqual(back, cycle[:1] + cycle[:0:-1])

    def test_orders_by_digits(self):
        # The streams 1010.. and 00101..: as tuples the first one, as digits the second one is the smaller one.
        for stream in ((0, "", "10"), (0, "0", "01")):
            self.assertEqual(limit_cycle(FLIP, stream), ((0, "0", "01"), (0, "", "10")))
        for stream in ((0, "", "01"), (0, "1", "10")):
            self.assertEqual(limit_cycle(FLIP, stream), ((0, "", "01"), (0, "1", "10")))


class ExponentTest(Case):

    def test_exponents(self):
        negative = 0
        for table, stream, chance in with_streams(5, 2):
            for count in (chance.randrange(-9, 0), chance.randrange(10)):
                step = table if count >= 0 else ~table
                goal = plain_orbit(step, stream, abs(count) + 1)[-1]
                if max(len(goal[1]), len(goal[2])) <= 30:
                    times = return_time(table, stream)
                    told = count if times is None else count % times
                    negative = negative + (told < 0)
                    self.assertEqual(exponent(table, stream, goal), told)
                    self.assertEqual(exponent(table, goal, stream), -count if times is None else -count % times)
        self.assertGreater(negative, 100)

    def test_no_exponent(self):
        for table, stream, chance in with_streams(6, 2)[::2]:
            near = plain_orbit(table, stream, 100) + plain_orbit(~table, stream, 100)
            for other in chance_streams(chance, table.base, table.left_roots, 3):
                told = exponent(table, stream, other)
                if told is None:
                    self.assertNotIn(other, near)
                else:
                    step = table if told >= 0 else ~table
                    self.assertEqual(plain_orbit(step, stream, abs(told) + 1)[-1], other)

    def test_great_exponents(self):
        stream = make_stream(2, 0, "0" * 30, "0" * 29 + "1")
        goal = (0, "", "1")
        for count in (3400, 5000):
            at = plain_orbit(LONG_GROWTH, stream, count + 1)[-1]
            fits = max(len(at[1]), len(at[2])) <= 30
            if fits:
                self.assertEqual(exponent(LONG_GROWTH, stream, at), count)
                self.assertEqual(exponent(LONG_GROWTH, at, stream), -count)
        self.assertIsNone(exponent(LONG_GROWTH, stream, goal))
        self.assertEqual(exponent(G, (0, "0" * 29, "1"), (0, "1" * 29 + "0", "1")), 57)
        self.assertEqual(exponent(G, (0, "1" * 29 + "0", "1"), (0, "0" * 29, "1")), -57)
        self.assertEqual(exponent(LONG, (0, "", "0"), (0, "1" * 8, "0")), 255)
        self.assertEqual(exponent(G, X, X), 0)

    def test_streams_on_one_circle_and_on_others(self):
        # Two growths in two roots, each with its own streams.
        both = Table(2, *[((root, left), (root, right)) for root in (0, 1)
                          for left, right in (("00", "0"), ("01", "10"), ("1", "11"))])
        self.assertEqual(exponent(both, (0, "0", "1"), (0, "10", "1")), 1)
        self.assertIsNone(exponent(both, (0, "0", "1"), (1, "10", "1")))
        self.assertIsNone(exponent(G, (0, "0", "1"), (0, "101", "10")))
        self.assertIsNone(exponent(G, (0, "0", "1"), (0, "", "1")))
        self.assertIsNone(exponent(G, (0, "", "1"), (0, "0", "1")))


class GermTest(Case):

    def check_germ(self, table, stream, count):
        old, new = germ(table, stream, count)
        step = table if count >= 0 else ~table
        self.assertEqual(old, (stream[0], plain_beginning(stream, len(old[1]))))
        for size in range(len(old[1]) + 1):
            at = (stream[0], plain_beginning(stream, size))
            for _ in range(abs(count)):
                at = at and plain_taken(step, at)
            self.assertEqual(at, new if size == len(old[1]) else None)

    def test_germs(self):
        for table, stream, chance in with_streams(8, 4):
            for count in (0, 1, -1, chance.randrange(-20, 21), chance.randrange(-100, 101)):
                self.check_germ(table, stream, count)
        for count in (100, -100):
            for table in (G, LONG, LONG_GROWTH, WORD_GROWTH, ROOT_GROWTH, FLIP, LAST):
                self.check_germ(table, X, count)

    def test_germs_of_zero_steps(self):
        self.assertEqual(germ(G, X, 0), ((0, ""), (0, "")))
        self.assertEqual(germ(TWO_ROOTS, (1, "", "0"), 0), ((1, ""), (1, "")))
        self.assertEqual(germ(Table.identity(2), X, 100), ((0, ""), (0, "")))

    def test_counts(self):
        for count in (101, -101, 10 ** 59, True, False, None, "1", (1,), [], F):
            self.check_error(InvalidNumber, count, germ, G, X, count)
            self.check_error(InvalidNumber, count, germ, TEN, X, count)
            self.check_error(InvalidNumber, count, germ, G, (0, "0" * 31, "1"), count)
            self.check_error(InvalidStream, KEEPS_NOTHING, germ, G, None, count)
            self.check_error(InvalidOperation, KEEPS_NOTHING, germ, NOT_SQUARE[0], X, count)


class ErrorsTest(Case):

    def test_tables(self):
        for call in ONE_STREAM:
            for value in NO_TABLES:
                self.check_error(InvalidTable, KEEPS_NOTHING, call, value, None)
            for table in NOT_SQUARE:
                self.check_error(InvalidOperation, KEEPS_NOTHING, call, table, None)
            for table in NOT_SMALL:
                self.check_error(TooMany, 9, call, table, (0, "", "0"))
                self.check_error(TooMany, 9, call, table, (0, "0" * 31, "1"))
                self.check_error(InvalidStream, KEEPS_NOTHING, call, table, None)

    def test_streams(self):
        for call in ONE_STREAM:
            for value in NO_STREAMS + [(1, "", "0"), F, (0, "")]:
                self.check_error(InvalidStream, KEEPS_NOTHING, call, F, value)
            for stream in ((0, "0" * 31, "1"), (0, "", "0" * 30 + "1"), (0, "0" * 31, "0" * 30 + "1"),
                           (0, "0" * 1500, "1")):
                self.check_error(TooMany, 30, call, F, stream)
                self.check_error(TooMany, 30, call, Table.identity(2), stream)
        self.check_error(InvalidStream, KEEPS_NOTHING, exponent, F, (0, "0" * 31, "1"), None)
        self.check_error(InvalidStream, KEEPS_NOTHING, exponent, TEN, X, None)
        self.check_error(InvalidStream, KEEPS_NOTHING, lambda: next(path(LAST, (0, "", "2"))))

    def test_just_long_enough(self):
        for stream in ((0, "0" * 30, "1"), (0, "", "0" * 29 + "1"), (0, "0" * 30, "0" * 29 + "1")):
            for call in ONE_STREAM:
                call(G, stream)
                call(F, stream)


if __name__ == "__main__":
    unittest.main()
