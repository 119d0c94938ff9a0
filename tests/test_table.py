"""[0.10], [0.11], [3.1] to [3.3], the class Table and difference."""

import random
import unittest

from prefixtable.errors import (
    InvalidCode, InvalidNumber, InvalidOperation, InvalidPrefix, InvalidStream, InvalidTable, NotTaken, TooMany)
from prefixtable.base.codes import code_through, expanded
from prefixtable.tables.table import Table, difference
from support import (
    KEEPS_NOTHING, OTHER_VALUES, Case, all_streams, all_words, chance_family, chance_rows, chance_streams, changed,
    plain_code, plain_image, plain_inner, plain_least, plain_prefix)
from tables import FLIP, GATHER, LAST, NO_TABLES, SPLIT, F, G
from test_codes import NO_CODES, comb_code
from test_streams import NO_PREFIXES, NO_STREAMS
from test_words import NO_BASES, NO_ROOTS

NO_ROWS = [(), (None,), (((0, ""),),), (((0, ""), (0, ""), (0, "")),), (((0, "0"), (0, "0")),),
           (((0, "0"), (0, "0")), ((0, "0"), (0, "1"))), (((0, "0"), (0, "0")), ((0, "1"), (0, "0"))),
           (((0, "0"), (0, "0")), ((0, "1"), (0, "10"))), (((0, ""), (1, "")),), (((1, ""), (0, "")),),
           (((0, "0"), (0, "0")), ((0, "1"), (0, "1")), ((0, "2"), (0, "2"))), ([(0, ""), (0, "")],),
           (((0, ""), [0, ""]),), (((False, ""), (0, "")),), (((0, ""), (0, None)),),
           (((0, ""), (0, "")), ((0, ""), (0, ""))), (((0, "0"), (0, "0")), ((0, "1"), (0, "1")), ((1, "0"), (1, "0")))]


def rows_over(f, base, codes_rows):
    """Return what over must yield by the definition."""
    return [(prefix, [(right[0], right[1] + prefix[1][len(left[1]):]) for left, right in f.rows
                      if left[0] == prefix[0] and prefix[1].startswith(left[1])][0]) for prefix in codes_rows]


def chance_tables(seed, many, size=9):
    """Return so many pairs of rows in some order and the table of these rows."""
    chance = random.Random(seed)
    found = []
    for base, left, right in chance_family(chance, many):
        rows = chance_rows(chance, base, left, right, chance.randrange(1, size))
        found.append((rows, Table(base, *rows)))
    return found


class ExamplesTest(Case):

    def test_printed_examples(self):
        self.assertEqual([G[(0, "10")], G.takes((0, "0")), (0, "0") in G, G((0, "0", "01")), len(G * G)],
                         [(0, "110"), None, False, (0, "", "01"), 4])
        self.assertEqual([FLIP * FLIP == Table.identity(2), bool(FLIP), (FLIP * G)[(0, "1")],
                          (G * FLIP).takes((0, "1")), F ** 5 == FLIP ** 0], [True, True, (0, "01"), None, True])
        rows = ((0, "1"), (0, "1")), ((0, "00"), (0, "00")), ((0, "01"), (0, "01"))
        self.assertEqual(Table(2, *rows).rows, (((0, ""), (0, "")),))
        self.check_error(NotTaken, (0, "0"), lambda: G[(0, "0")])
        self.assertEqual([difference(G, G), difference(FLIP, Table.identity(2)) is None], [None, False])
        self.assertEqual(str(FLIP), "base 2: 0:0 > 0:1, 0:1 > 0:0")


class MakingTest(Case):

    def test_least_rows(self):
        for rows, table in chance_tables(1, 200):
            base = table.base
            self.assertEqual(table.rows, plain_least(base, rows))
            self.assertEqual(Table.of(base, rows[::-1]), table)
            self.assertEqual(Table(base, *table.rows).rows, table.rows)

    def test_same_map_by_other_rows(self):
        chance = random.Random(4)
        for rows, table in chance_tables(2, 60):
            base = table.base
            more = list(table.rows)
            for _ in range(chance.randrange(1, 12)):
                (root, word), (other_root, other) = more.pop(chance.randrange(len(more)))
                more.extend(((root, word + digit), (other_root, other + digit)) for digit in "01234"[:base])
            chance.shuffle(more)
            self.assertEqual(Table(base, *more).rows, table.rows)
            self.assertEqual(Table.of(base, tuple(more)), table)

    def test_least_rows_over_several_levels(self):
        for base in (2, 3, 4, 5):
            words = [word for word in all_words(base, 4) if len(word) == 4]
            rows = [((0, word), (1, "1" + word)) for word in words] + [((1, ""), (0, ""))]
            rows = rows + [((2 + at, ""), (1, digit)) for at, digit in enumerate("0234"[:base - 1])]
            self.assertEqual(Table(base, *rows).rows, tuple(sorted(
                [((0, ""), (1, "1")), ((1, ""), (0, ""))]
                + [((2 + at, ""), (1, digit)) for at, digit in enumerate("0234"[:base - 1])])))

    def test_identity(self):
        for base in (2, 5):
            for roots in (1, 2, 5000):
                same = Table.identity(base, roots=roots)
                self.assertEqual(same.rows, tuple(((root, ""), (root, "")) for root in range(roots)))
                self.assertIs(bool(same), False)
        self.assertEqual(Table.identity(3), Table(3, ((0, ""), (0, ""))))

    def test_limits(self):
        most = comb_code(2, 5000)
        table = Table(2, *zip(most, most[::-1]))
        self.assertEqual(len(table), 5000)
        self.assertEqual(Table.MAX_ROWS, 5000)
        self.check_error(TooMany, 5000, Table, 2, *(None for _ in range(5001)))
        self.check_error(TooMany, 5000, Table.of, 2, tuple(range(5001)))
        words = tuple((0, format(at, "013b")) for at in range(8192))
        self.check_error(TooMany, 5000, Table.of, 2, tuple(zip(words, words)))
        self.check_error(InvalidTable, KEEPS_NOTHING, Table.of, 2, tuple(range(5000)))
        words = tuple((0, format(at, "012b")) for at in range(4096))
        self.assertEqual(Table.of(2, tuple(zip(words, words))), Table.identity(2))
        roots = tuple(((root, ""), (4999 - root, "")) for root in range(5000))
        self.assertEqual([Table.of(2, roots).left_roots, Table.of(2, roots).right_roots], [5000, 5000])

    def test_errors(self):
        for base in NO_BASES:
            self.check_error(InvalidNumber, base, Table, base)
            self.check_error(InvalidNumber, base, Table, base, *range(5001))
            self.check_error(InvalidNumber, base, Table.of, base, None)
            self.check_error(InvalidNumber, base, Table.identity, base, roots=0)
        for roots in NO_ROOTS:
            self.check_error(InvalidNumber, roots, Table.identity, 2, roots=roots)
        for rows in NO_ROWS:
            self.check_error(InvalidTable, KEEPS_NOTHING, Table, 2, *rows)
            self.check_error(InvalidTable, KEEPS_NOTHING, Table.of, 2, rows)
        for value in (None, 3, True, "0", [((0, ""), (0, ""))], {}, FLIP):
            self.check_error(InvalidTable, KEEPS_NOTHING, Table.of, 2, value)
            self.check_error(InvalidTable, KEEPS_NOTHING, Table, 2, value)
        self.check_error(InvalidTable, KEEPS_NOTHING, Table.of, 3, FLIP.rows)

    def test_changed_rows_are_judged(self):
        for rows in (FLIP.rows, SPLIT.rows, (((0, ""), (0, "")),)):
            for value in changed(rows):
                if plain_rows(2, value):
                    self.assertEqual(Table.of(2, value).rows, plain_least(2, value))
                else:
                    self.check_error(InvalidTable, KEEPS_NOTHING, Table.of, 2, value)


def plain_rows(base, value):
    """Tell by the definition whether a value is the rows of a table."""
    if not isinstance(value, tuple) or len(value) == 0:
        return False
    if not all(isinstance(row, tuple) and len(row) == 2 and all(plain_prefix(base, 5000, side) for side in row)
               for row in value):
        return False
    sides = [tuple(sorted(row[at] for row in value)) for at in (0, 1)]
    return all(plain_code(base, len({root for root, _ in side}), side)
               and {root for root, _ in side} == set(range(len({root for root, _ in side}))) for side in sides)


class PropertiesTest(Case):

    def test_properties(self):
        for rows, table in chance_tables(3, 100):
            self.assertEqual(table.left_roots, 1 + max(left[0] for left, _ in rows))
            self.assertEqual(table.right_roots, 1 + max(right[0] for _, right in rows))
            self.assertEqual(table.left_code, tuple(left for left, _ in table.rows))
            self.assertEqual(table.right_code, tuple(sorted(right for _, right in table.rows)))
            self.assertTrue(plain_code(table.base, table.left_roots, table.left_code))
            self.assertTrue(plain_code(table.base, table.right_roots, table.right_code))
            self.assertIs(table.is_square, table.left_roots == table.right_roots)
            self.assertEqual(len(table), len(table.rows))
        self.assertEqual([SPLIT.left_roots, SPLIT.right_roots, SPLIT.is_square, SPLIT.base], [1, 2, False, 2])
        self.assertEqual([GATHER.left_roots, GATHER.right_roots, GATHER.is_square, GATHER.base], [3, 1, False, 3])

    def test_state_is_out_of_reach(self):
        for table in (F, SPLIT, GATHER):
            for value in (table.rows, table.left_code, table.right_code):
                self.assertIs(type(value), tuple)
                for row in value:
                    self.assertIs(type(row), tuple)
            with self.assertRaises(AttributeError):
                table.rows = ()
        rows = [((0, "0"), (0, "1")), ((0, "1"), (0, "0"))]
        table = Table(2, *rows)
        rows.clear()
        self.assertEqual(table, FLIP)

    def test_equality(self):
        tables = [table for _, table in chance_tables(5, 60, 4)] + [F, G, FLIP, LAST, SPLIT, GATHER]
        for one in tables:
            for other in tables:
                same = (one.base, one.rows) == (other.base, other.rows)
                self.assertIs(one == other, same)
                self.assertIs(one != other, not same)
            for value in NO_TABLES:
                self.assertIs(one == value, False)
                self.assertIs(one != value, True)
        self.assertIs(Table.identity(2) == Table.identity(3), False)
        self.assertIs(Table.identity(2) == Table.identity(2, roots=2), False)

    def test_truth(self):
        for rows, table in chance_tables(6, 60, 4):
            self.assertIs(bool(table), any(left != right for left, right in plain_least(table.base, rows)))
        self.assertIs(bool(SPLIT), True)
        self.assertIs(bool(Table(2, ((0, ""), (1, "")), ((1, ""), (0, "")))), True)
        self.assertIs(bool(LAST), True)
        self.assertIs(bool(FLIP * FLIP), False)

    def test_text(self):
        self.assertEqual(str(SPLIT), "base 2: 0:0 > 0:-, 0:1 > 1:-")
        self.assertEqual(str(Table.identity(4, roots=2)), "base 4: 0:- > 0:-, 1:- > 1:-")
        self.assertEqual(str(GATHER), "base 3: 0:- > 0:1, 1:- > 0:2, 2:- > 0:0")
        roots = tuple(((root, ""), (root, "")) for root in range(11))
        self.assertTrue(str(Table.of(2, roots)).endswith(", 9:- > 9:-, 10:- > 10:-"))
        for _, table in chance_tables(7, 30):
            told = [f"{l[0]}:{l[1] or '-'} > {r[0]}:{r[1] or '-'}" for l, r in table.rows]
            self.assertEqual(str(table), f"base {table.base}: " + ", ".join(told))


class ImagesTest(Case):

    def test_images_of_prefixes(self):
        for rows, table in chance_tables(8, 60):
            base = table.base
            told = [(root, word) for root in range(table.left_roots) for word in all_words(base, 2)]
            told = told + [(root, word + more) for root, word in table.left_code for more in ("", "0", "1" * 300)]
            told = told + list(plain_inner(table.left_code))
            for prefix in told:
                image = [(right[0], right[1] + prefix[1][len(left[1]):]) for left, right in table.rows
                         if left[0] == prefix[0] and prefix[1].startswith(left[1])]
                self.assertEqual(table.takes(prefix), image[0] if image else None)
                self.assertIs(prefix in table, bool(image))
                if image:
                    self.assertEqual(table[prefix], image[0])
                    self.assertEqual((~table)[image[0]], prefix)
                    self.assertEqual(table[prefix[0], prefix[1] + "10"], (image[0][0], image[0][1] + "10"))
                else:
                    self.check_error(NotTaken, prefix, lambda: table[prefix])

    def test_prefixes_of_other_kinds(self):
        for table in (F, SPLIT, Table.identity(2, roots=2)):
            for value in NO_PREFIXES + OTHER_VALUES + changed((0, "00")):
                if plain_prefix(2, table.left_roots, value):
                    self.assertIs(value in table, table.takes(value) is not None)
                else:
                    self.assertIs(value in table, False)
                    self.check_error(InvalidPrefix, KEEPS_NOTHING, table.takes, value)
                    self.check_error(InvalidPrefix, KEEPS_NOTHING, lambda: table[value])
        self.assertIs((1, "") in SPLIT, False)
        self.assertIs((1, "") in ~SPLIT, True)

    def test_images_of_streams(self):
        chance = random.Random(9)
        for rows, table in chance_tables(9, 100):
            for stream in chance_streams(chance, table.base, table.left_roots, 30):
                image = table(stream)
                self.assertEqual(image, plain_image(rows, stream))
                self.assertEqual((~table)(image), stream)
        deep = Table(2, *zip(comb_code(2, 5000), comb_code(2, 5000)[::-1]))
        self.assertEqual(deep((0, "", "1")), plain_image(deep.rows, (0, "", "1")))
        self.assertEqual(deep((0, "1" * 4998 + "0", "01")), plain_image(deep.rows, (0, "1" * 4998 + "0", "01")))

    def test_streams_of_other_kinds(self):
        for stream in NO_STREAMS + [(1, "", "0"), F, (0, "")]:
            self.check_error(InvalidStream, KEEPS_NOTHING, F, stream)
        self.assertEqual((~SPLIT)((1, "", "0")), (0, "1", "0"))
        self.check_error(InvalidStream, KEEPS_NOTHING, SPLIT, (1, "", "0"))

    def test_over(self):
        chance = random.Random(10)
        for rows, table in chance_tables(10, 60):
            code = table.left_code
            for _ in range(4):
                self.assertEqual(list(table.over(code)), rows_over(table, table.base, code))
                code = expanded(table.base, code, chance.choice(code))
        deep = Table(2, *zip(comb_code(2, 5000), comb_code(2, 5000)[::-1]))
        self.assertEqual(tuple(deep.over(comb_code(2, 5000))), deep.rows)

    def test_over_in_part_and_twice_at_once(self):
        one, other = F.over(F.left_code), F.over(F.left_code)
        self.assertEqual([next(one), next(one), next(other)], [F.rows[0], F.rows[1], F.rows[0]])
        self.assertEqual([tuple(one), tuple(other)], [F.rows[2:], F.rows[1:]])

    def test_errors_of_over(self):
        for value in NO_CODES + [((0, ""), (1, "")), ((0, "00"), (0, "01"))]:
            self.check_error(InvalidCode, KEEPS_NOTHING, lambda: next(F.over(value)))
        for code in (((0, ""),), ((0, "0"), (0, "1")), ((0, "00"), (0, "01"), (0, "10"), (0, "11"))):
            self.check_error(InvalidOperation, KEEPS_NOTHING, lambda: next(F.over(code)))
        self.check_error(InvalidCode, KEEPS_NOTHING, lambda: next(SPLIT.over(((0, ""), (1, "")))))


class ProductsTest(Case):

    def test_products(self):
        chance = random.Random(11)
        for base, left, middle in chance_family(chance, 100):
            right = chance.choice([roots for roots in range(1, 5) if (roots - left) % (base - 1) == 0])
            first = Table(base, *chance_rows(chance, base, left, middle, chance.randrange(1, 9)))
            last = Table(base, *chance_rows(chance, base, middle, right, chance.randrange(1, 9)))
            both = last * first
            self.assertEqual(both.rows, plain_least(base, both.rows))
            self.assertEqual([both.left_roots, both.right_roots], [left, right])
            for stream in chance_streams(chance, base, left, 20):
                self.assertEqual(both(stream), last(first(stream)))
            more = Table(base, *chance_rows(chance, base, right, left, 5))
            self.assertEqual((more * last) * first, more * (last * first))
            self.assertEqual(~both, ~first * ~last)

    def test_inverses(self):
        for rows, table in chance_tables(12, 100):
            self.assertEqual((~table).rows, tuple(sorted((right, left) for left, right in table.rows)))
            self.assertEqual(~~table, table)
            self.assertEqual(table * ~table, Table.identity(table.base, roots=table.right_roots))
            self.assertEqual(~table * table, Table.identity(table.base, roots=table.left_roots))

    def test_errors_of_products(self):
        for value in NO_TABLES:
            self.check_error(InvalidOperation, KEEPS_NOTHING, lambda: F * value)
        for one, other in ((SPLIT, SPLIT), (F, SPLIT), (~SPLIT, F), (GATHER, F), (Table.identity(3), F),
                           (Table.identity(2, roots=2), Table.identity(2))):
            self.check_error(InvalidOperation, KEEPS_NOTHING, lambda: one * other)
        self.assertEqual(SPLIT * F * ~SPLIT, SPLIT * (F * ~SPLIT))

    def test_products_with_too_many_rows(self):
        left = comb_code(2, 3000)
        right = code_through(2, 1, (0, "0" * 2999))
        one = Table(2, *zip(left, left[1:] + left[:1]))
        other = Table(2, *zip(right, right[1:] + right[:1]))
        self.check_error(TooMany, 5000, lambda: one * other)
        self.check_error(TooMany, 5000, lambda: other * one)
        self.assertEqual(one * ~one, Table.identity(2))
        self.assertEqual(len(one * one), 3000)

    def test_product_with_just_as_many_rows_as_there_may_be(self):
        for size, fits in ((2501, True), (2502, False)):
            left = comb_code(2, size)
            right = code_through(2, 1, (0, "0" * (size - 1)))
            one = Table(2, *zip(left, left[::-1]))
            other = Table(2, *zip(right, right[1:] + right[:1]))
            if fits:
                self.assertEqual(len(one * other), 5000)
            else:
                self.check_error(TooMany, 5000, lambda: one * other)


class PowersTest(Case):

    def test_powers(self):
        for rows, table in chance_tables(13, 60, 6):
            if table.is_square:
                step = Table.identity(table.base, roots=table.left_roots)
                for n in range(8):
                    self.assertEqual([table ** n, table.power(n)], [step, step])
                    self.assertEqual([table ** -n, table.power(-n)], [~step, ~step])
                    step = table * step
            else:
                self.check_error(InvalidOperation, KEEPS_NOTHING, lambda: table ** 0)
                self.check_error(InvalidOperation, KEEPS_NOTHING, table.power, None)

    def test_great_exponents(self):
        self.assertEqual([F ** 64, F ** -64, F ** 63], [F ** 4, F, F ** 3])
        self.assertEqual(G ** 64, (G ** 8 * G ** 8) ** 4)
        self.assertEqual([len(G ** 64), (G ** -64)(G.power(64)((0, "0", "1")))], [66, (0, "0", "1")])
        self.assertEqual((G ** 64)[(0, "1")], (0, "1" * 65))

    def test_errors(self):
        for n in (65, -65, 10 ** 59, True, False, None, "2", (2,), [2], F):
            self.check_error(InvalidNumber, n, F.power, n)
            self.check_error(InvalidNumber, n, lambda: F ** n)
        for n in (0, 1, 65, None):
            self.check_error(InvalidOperation, KEEPS_NOTHING, SPLIT.power, n)
            self.check_error(InvalidOperation, KEEPS_NOTHING, lambda: SPLIT ** n)

    def test_a_power_on_the_way_with_too_many_rows(self):
        for size, fits in ((80, True), (800, False)):
            table = six_roots(size)
            self.assertEqual([table ** 1, table ** -1], [table, ~table])
            if fits:
                self.assertGreater(len(table ** 2), len(table))
                self.assertEqual([table ** 6, table ** 7, table ** -6], [table ** 0, table, table ** 0])
            else:
                # The sixth power changes nothing, but the second one has more than 5000 rows.
                for n in (2, -2, 3, 6, -6, 64):
                    self.check_error(TooMany, 5000, table.power, n)
                    self.check_error(TooMany, 5000, lambda: table ** n)

    def test_powers_that_grow(self):
        code = comb_code(2, 4000)
        grown = Table(2, *zip(code, code_through(2, 1, (0, "0" * 3999))))
        self.check_error(TooMany, 5000, lambda: grown ** 2)
        self.check_error(TooMany, 5000, grown.power, -64)
        self.assertEqual([grown ** 1, grown ** -1], [grown, ~grown])


def six_roots(size):
    """Return a table of six roots in a circle whose sixth power is the identity, with growing powers before it."""
    ones, zeros = comb_code(2, size), code_through(2, 1, (0, "0" * (size - 1)))
    ways = [tuple(zip(code, code[1:] + code[:1])) for code in (ones, zeros, ones)]
    ways = ways + [tuple((right, left) for left, right in way) for way in ways[::-1]]
    return Table(2, *[((root, left[1]), ((root + 1) % 6, right[1])) for root in range(6) for left, right in ways[root]])


class DifferenceTest(Case):

    def check_difference(self, one, other):
        stream = difference(one, other)
        if one == other:
            self.assertIsNone(stream)
        else:
            self.assertNotEqual(one(stream), other(stream))

    def test_differences(self):
        chance = random.Random(14)
        for base, left, right in chance_family(chance, 200):
            one = Table(base, *chance_rows(chance, base, left, right, 4))
            other = Table(base, *chance_rows(chance, base, left, right, 5))
            self.check_difference(one, other)
            self.check_difference(one, one * Table.identity(base, roots=left))

    def test_images_above_one_another(self):
        shifted = Table(2, ((0, "0"), (0, "00")), ((0, "10"), (0, "01")), ((0, "11"), (0, "1")))
        deeper = shifted * shifted
        tables = [shifted, deeper, G, ~G, F, ~F, FLIP, LAST, Table.identity(2), G ** 3, G ** -3, ~shifted, ~deeper]
        for one in tables:
            for other in tables:
                self.check_difference(one, other)

    def test_errors(self):
        for value in NO_TABLES:
            self.check_error(InvalidTable, KEEPS_NOTHING, difference, value, F)
            self.check_error(InvalidTable, KEEPS_NOTHING, difference, F, value)
            self.check_error(InvalidTable, KEEPS_NOTHING, difference, SPLIT, value)
        for one, other in ((F, SPLIT), (SPLIT, ~SPLIT), (Table.identity(2), Table.identity(3)),
                           (F, Table.identity(2, roots=2))):
            self.check_error(InvalidOperation, KEEPS_NOTHING, difference, one, other)
            self.check_error(InvalidOperation, KEEPS_NOTHING, difference, other, one)

    def test_equal_tables_have_equal_images(self):
        streams = all_streams(2, (0,), 3, 3)
        for one in (F, G, FLIP, LAST, F * G, G * F, F ** 5, Table.identity(2)):
            for other in (F, G, FLIP, LAST, F * G, G * F, F ** 5, Table.identity(2)):
                self.assertEqual(one == other, all(one(stream) == other(stream) for stream in streams))


if __name__ == "__main__":
    unittest.main()
