"""[4.1] to [4.3] and the functions of stage 4."""

import itertools
import random
import unittest

from prefixtable.base.streams import make_stream
from prefixtable.errors import InvalidCode, InvalidNumber, InvalidOperation, InvalidPrefix, InvalidTable, TooMany
from prefixtable.tables.building import (
    beside, beside_all, cycle, cycle_of, in_order, is_swaps, product_of_swaps, sign, swap, swaps_of, within)
from prefixtable.tables.table import Table
from support import (
    KEEPS_NOTHING, OTHER_VALUES, Case, chance_code, chance_family, chance_rows, chance_streams, changed,
    plain_beginning, plain_codes, plain_prefix)
from tables import FLIP, GATHER, LAST, NO_TABLES, SPLIT, F, G
from test_codes import NO_CODES, comb_code
from test_streams import NO_PREFIXES
from test_words import NO_BASES, NO_ROOTS

a, b, c = (0, "0"), (0, "10"), (0, "11")


def plain_apart(one, other):
    """Tell by the definition whether two prefixes are apart."""
    return one[0] != other[0] or not (one[1].startswith(other[1]) or other[1].startswith(one[1]))


def plain_cycle_image(stream, prefixes):
    """Return the image of a stream under a cycle by the definition."""
    for prefix, image in zip(prefixes, prefixes[1:] + prefixes[:1]):
        size = len(prefix[1])
        if stream[0] == prefix[0] and plain_beginning(stream, size) == prefix[1]:
            longer = stream[1] + stream[2] * (size + 1)
            return make_stream(5, image[0], image[1] + longer[size:], stream[2])
    return stream


def plain_list_of_swaps(base, roots, value):
    """Tell by the definition whether a value is a list of swaps."""
    if not isinstance(value, tuple) or len(value) > 200:
        return False
    for pair in value:
        if not isinstance(pair, tuple) or len(pair) != 2 or not all(plain_prefix(base, roots, part) for part in pair):
            return False
        if not plain_apart(*pair):
            return False
    return roots + (base - 1) * sum(len(word) for pair in value for _, word in pair) <= 5000


def squares(seed, many, size=9):
    """Return so many square tables with at most 9 or so rows."""
    chance = random.Random(seed)
    found = []
    for _ in range(many):
        base, roots = chance.randrange(2, 6), chance.randrange(1, 4)
        table = Table(base, *chance_rows(chance, base, roots, roots, chance.randrange(1, size)))
        if len(table) <= 9:
            found.append(table)
    return found


class ExamplesTest(Case):

    def test_printed_examples(self):
        self.assertEqual(swap(2, 1, a, b).rows,
                         (((0, "0"), (0, "10")), ((0, "10"), (0, "0")), ((0, "11"), (0, "11"))))
        self.assertEqual([cycle(2, 1, a, b, c)(make_stream(2, 0, "", "1")), cycle(2, 1, a) == cycle_of(2, 1, ())],
                         [(0, "0", "1"), True])
        self.assertEqual([in_order(2, (a, b, c), ((0, "00"), (0, "01"), (0, "1"))) == ~G,
                          beside(G, FLIP)[(1, "0")], within(G, 2, (1, "1"))[(1, "100")]], [True, (1, "1"), (1, "10")])
        self.assertEqual([is_swaps(cycle(2, 1, a, b, c), ((a, b), (a, c))),
                          is_swaps(cycle(2, 1, a, b, c), ((a, c), (a, b)))], [True, False])


class CyclesTest(Case):

    def test_cycles(self):
        chance = random.Random(1)
        for _ in range(300):
            base, roots = chance.randrange(2, 6), chance.randrange(1, 4)
            code = list(chance_code(chance, base, roots, chance.randrange(5)))
            chance.shuffle(code)
            told = tuple(code[:chance.randrange(6)])
            table = cycle(base, roots, *told)
            self.assertEqual(cycle_of(base, roots, told), table)
            self.assertEqual([table.left_roots, table.right_roots], [roots, roots])
            for stream in chance_streams(chance, base, roots, 20):
                self.assertEqual(table(stream), plain_cycle_image(stream, told))
            if len(told) < 2:
                self.assertEqual(table, Table.identity(base, roots=roots))
            if len(told) == 2:
                self.assertEqual(swap(base, roots, *told), table)
                self.assertEqual(swap(base, roots, told[1], told[0]), table)
                self.assertEqual(~table, table)

    def test_long_words(self):
        one, other = (0, "01" * 250), (0, "1" * 700)
        table = swap(2, 1, one, other)
        self.assertEqual(len(table), 1 + 500 + 700 - 1)
        self.assertEqual([table[one], table[other], table((0, "", "0"))], [other, one, (0, "", "0")])
        self.assertEqual(len(swap(2, 1, (0, "0" * 2500), (0, "1" * 2500))), 5000)
        self.check_error(TooMany, 5000, swap, 2, 1, (0, "0" * 2500), (0, "1" * 2501))
        self.check_error(TooMany, 5000, cycle, 2, 1, (0, "0" * 100000), (0, "1"))
        self.check_error(TooMany, 5000, cycle_of, 5, 1, ((0, "0" * 1250), (0, "4")))
        self.assertEqual(len(cycle_of(5, 1, ((0, "0" * 1249), (0, "4")))), 4997)
        self.assertEqual(cycle(2, 1, (0, "1" * 9000)), Table.identity(2))
        self.check_error(TooMany, 5000, swap, 2, 5000, (0, "0"), (1, ""))

    def test_long_cycles_with_few_rows(self):
        # Adding one to a number whose first digit counts least: 14 least rows, though the cycle has 8192 prefixes.
        words = [format(at, "013b")[::-1] for at in range(8192)]
        table = cycle_of(2, 1, tuple((0, word) for word in words))
        self.assertEqual(len(table), 14)
        self.assertEqual([table[(0, word)] for word in words], [(0, word) for word in words[1:] + words[:1]])
        words = ["".join(row) for row in itertools.product("012", repeat=3)]
        table = cycle(3, 2, *[(root, word) for word in words for root in (0, 1)])
        self.assertEqual(table((0, "00", "1")), (1, "00", "1"))
        self.assertEqual(table[(1, "222")], (0, "000"))

    def test_errors(self):
        for base in NO_BASES:
            self.check_error(InvalidNumber, base, swap, base, 0, None, None)
            self.check_error(InvalidNumber, base, cycle, base, 0, None)
            self.check_error(InvalidNumber, base, cycle_of, base, 0, None)
        for roots in NO_ROOTS:
            self.check_error(InvalidNumber, roots, swap, 2, roots, None, None)
            self.check_error(InvalidNumber, roots, cycle, 2, roots, None)
            self.check_error(InvalidNumber, roots, cycle_of, 2, roots, None)
        for value in (None, 3, "0", [a, b], {a: b}, True):
            self.check_error(InvalidPrefix, KEEPS_NOTHING, cycle_of, 2, 1, value)
        for prefix in NO_PREFIXES + [(1, "")]:
            self.check_error(InvalidPrefix, KEEPS_NOTHING, swap, 2, 1, prefix, a)
            self.check_error(InvalidPrefix, KEEPS_NOTHING, swap, 2, 1, a, prefix)
            self.check_error(InvalidPrefix, KEEPS_NOTHING, cycle, 2, 1, a, a, prefix)
            self.check_error(InvalidPrefix, KEEPS_NOTHING, cycle_of, 2, 1, (prefix, a, a))
        for told in ((a, a), (a, (0, "")), (a, b, c, (0, "1" * 6000)), (a, c, (0, "01")), ((0, ""), (0, ""))):
            self.check_error(InvalidOperation, KEEPS_NOTHING, cycle, 2, 1, *told)
            self.check_error(InvalidOperation, KEEPS_NOTHING, cycle_of, 2, 1, told)
        for one, other in ((a, a), (a, (0, "")), ((0, ""), a), (c, (0, "1" * 6000)), ((0, "01"), a)):
            self.check_error(InvalidOperation, KEEPS_NOTHING, swap, 2, 1, one, other)


class WithinTest(Case):

    def test_within(self):
        chance = random.Random(2)
        for _ in range(150):
            base, roots = chance.randrange(2, 6), chance.randrange(1, 4)
            table = Table(base, *chance_rows(chance, base, 1, 1, chance.randrange(1, 7)))
            prefix = chance.choice(chance_code(chance, base, roots, chance.randrange(4)))
            whole = within(table, roots, prefix)
            self.assertEqual([whole.left_roots, whole.right_roots], [roots, roots])
            for root, head, period in chance_streams(chance, base, 1, 15):
                image = table((root, head, period))
                self.assertEqual(whole(make_stream(base, prefix[0], prefix[1] + head, period)),
                                 make_stream(base, prefix[0], prefix[1] + image[1], image[2]))
            for stream in chance_streams(chance, base, roots, 15):
                if stream[0] != prefix[0] or plain_beginning(stream, len(prefix[1])) != prefix[1]:
                    self.assertEqual(whole(stream), stream)
        self.assertEqual(within(F, 1, (0, "")), F)

    def test_limits(self):
        self.assertEqual(within(Table.identity(2), 1, (0, "1" * 9000)), Table.identity(2))
        self.assertEqual(within(Table.identity(5), 5000, (0, "1")), Table.identity(5, roots=5000))
        self.assertEqual(len(within(FLIP, 1, (0, "1" * 4998))), 5000)
        self.check_error(TooMany, 5000, within, FLIP, 1, (0, "1" * 4999))
        self.check_error(TooMany, 5000, within, FLIP, 1, (0, "1" * 100000))
        self.check_error(TooMany, 5000, within, FLIP, 5000, (0, ""))
        self.assertEqual(len(within(FLIP, 4999, (8, ""))), 5000)

    def test_errors(self):
        for value in NO_TABLES:
            self.check_error(InvalidTable, KEEPS_NOTHING, within, value, 0, None)
        for table in (SPLIT, ~SPLIT, GATHER, Table.identity(2, roots=2)):
            self.check_error(InvalidOperation, KEEPS_NOTHING, within, table, 0, None)
        for roots in NO_ROOTS:
            self.check_error(InvalidNumber, roots, within, F, roots, None)
        for prefix in NO_PREFIXES + [(1, "")]:
            self.check_error(InvalidPrefix, KEEPS_NOTHING, within, F, 1, prefix)
        self.check_error(InvalidPrefix, KEEPS_NOTHING, within, Table.identity(2), 1, (0, "2"))


class BesideTest(Case):

    def test_beside(self):
        chance = random.Random(3)
        for _ in range(60):
            base = chance.randrange(2, 6)
            sizes = [(left, right) for left in (1, 2, 3) for right in (1, 2, 3) if (left - right) % (base - 1) == 0]
            chance.shuffle(sizes)
            told = tuple(Table(base, *chance_rows(chance, base, left, right, 4))
                         for left, right in sizes[:chance.randrange(1, 4)])
            table = beside(*told)
            self.assertEqual(beside_all(told), table)
            self.assertEqual([table.left_roots, table.right_roots],
                             [sum(part.left_roots for part in told), sum(part.right_roots for part in told)])
            self.assertEqual(len(table), sum(len(part) for part in told))
            left, right = 0, 0
            for part in told:
                for root, head, period in chance_streams(chance, base, part.left_roots, 10):
                    image = part((root, head, period))
                    self.assertEqual(table((left + root, head, period)), (right + image[0], image[1], image[2]))
                left, right = left + part.left_roots, right + part.right_roots
        self.assertEqual(beside(F), F)

    def test_limits(self):
        large = Table.identity(2, roots=4998)
        self.assertEqual(len(beside(large, FLIP)), 5000)
        self.check_error(TooMany, 5000, beside, large, F)
        self.check_error(TooMany, 5000, beside_all, (large, FLIP, SPLIT))

    def test_errors(self):
        for value in NO_TABLES:
            self.check_error(InvalidTable, KEEPS_NOTHING, beside, F, value)
            self.check_error(InvalidTable, KEEPS_NOTHING, beside_all, (F, GATHER, value))
            if value != () and not (isinstance(value, tuple) and all(isinstance(part, Table) for part in value)):
                self.check_error(InvalidTable, KEEPS_NOTHING, beside_all, value)
        self.check_error(InvalidTable, KEEPS_NOTHING, beside_all, [F, G])
        self.check_error(InvalidTable, KEEPS_NOTHING, beside_all, F)
        self.check_error(InvalidOperation, KEEPS_NOTHING, beside)
        self.check_error(InvalidOperation, KEEPS_NOTHING, beside_all, ())
        self.check_error(InvalidOperation, KEEPS_NOTHING, beside, F, G, GATHER)
        large = Table.identity(2, roots=4998)
        self.check_error(InvalidOperation, KEEPS_NOTHING, beside_all, (large, large, GATHER))


class InOrderTest(Case):

    def test_in_order(self):
        chance = random.Random(4)
        for base, left, right in chance_family(chance, 100):
            rows = chance_rows(chance, base, left, right, chance.randrange(1, 9))
            codes = [tuple(sorted(row[at] for row in rows)) for at in (0, 1)]
            table = in_order(base, *codes)
            self.assertEqual(table, Table(base, *zip(*codes)))
            self.assertEqual([table[prefix] for prefix in codes[0]], list(codes[1]))
        self.assertEqual(in_order(2, ((0, "0"), (0, "1")), ((0, ""), (1, ""))), SPLIT)

    def test_errors(self):
        for base in NO_BASES:
            self.check_error(InvalidNumber, base, in_order, base, None, None)
        for code in NO_CODES:
            self.check_error(InvalidCode, KEEPS_NOTHING, in_order, 2, code, (a, b, c))
            self.check_error(InvalidCode, KEEPS_NOTHING, in_order, 2, (a, b, c), code)
            self.check_error(InvalidCode, KEEPS_NOTHING, in_order, 2, ((0, ""),), code)
        self.check_error(InvalidOperation, KEEPS_NOTHING, in_order, 2, (a, b, c), ((0, ""), (1, "")))
        self.check_error(InvalidOperation, KEEPS_NOTHING, in_order, 2, ((0, ""),), (a, b, c))


class SwapsTest(Case):

    def test_lists_of_small_tables(self):
        for table in squares(5, 300, 10) + [F, G, ~G, FLIP, LAST, Table.identity(2), Table.identity(5, roots=9)]:
            swaps = swaps_of(table)
            self.assertTrue(plain_list_of_swaps(table.base, table.left_roots, swaps))
            self.assertIs(is_swaps(table, swaps), True)
            product = Table.identity(table.base, roots=table.left_roots)
            for one, other in swaps:
                product = swap(table.base, table.left_roots, one, other) * product
            self.assertEqual(product, table)
            self.assertEqual(product_of_swaps(table.base, table.left_roots, swaps), table)

    def test_all_pairs_of_codes(self):
        for base, roots, size in ((2, 1, 5), (3, 1, 7), (2, 2, 4)):
            codes = plain_codes(base, roots, size)
            for left in codes:
                for right in codes:
                    table = in_order(base, left, right)
                    self.assertIs(is_swaps(table, swaps_of(table)), True)

    def test_changed_lists(self):
        table = cycle(2, 1, a, b, c)
        swaps = ((a, b), (a, c))
        for value in changed(swaps) + OTHER_VALUES + [((b, a), (c, a)), ((a, b), (b, c)), ((b, c), (a, b)), swaps * 4]:
            right = plain_list_of_swaps(2, 1, value)
            if right:
                product = Table.identity(2)
                for one, other in value:
                    product = swap(2, 1, one, other) * product
                self.assertEqual(product_of_swaps(2, 1, value), product)
                self.assertIs(is_swaps(table, value), product == table)
            else:
                self.check_error(InvalidOperation, KEEPS_NOTHING, product_of_swaps, 2, 1, value)
                self.assertIs(is_swaps(table, value), False)
        self.assertIs(is_swaps(table, swaps * 4), True)
        self.assertIs(is_swaps(table, ((b, a), (c, a))), True)

    def test_lists_at_the_bounds(self):
        self.assertEqual(product_of_swaps(2, 1, ((a, b),) * 200), Table.identity(2))
        self.assertIs(is_swaps(Table.identity(2), ((a, b),) * 200), True)
        self.assertIs(is_swaps(Table.identity(2), ((a, b),) * 202), False)
        self.check_error(InvalidOperation, KEEPS_NOTHING, product_of_swaps, 2, 1, ((a, b),) * 201)
        for base, roots, size in ((2, 1, 2499), (2, 10, 2494), (3, 2, 1249), (5, 4, 624)):
            one, other = (0, "0" * size), (0, "1" * (size + 1))
            self.assertLessEqual(roots + (base - 1) * (2 * size + 1), 5000)
            self.assertEqual(product_of_swaps(base, roots, ((one, other),)), swap(base, roots, one, other))
            self.assertIs(is_swaps(swap(base, roots, one, other), ((one, other),)), True)
            for more in ("0" * (size + 2), "0" * 9000):
                self.assertIs(is_swaps(swap(base, roots, one, other), ((one, (0, "1" + more)),)), False)
                self.check_error(InvalidOperation, KEEPS_NOTHING, product_of_swaps, base, roots,
                                 ((one, (0, "1" + more)),))
        self.assertEqual(product_of_swaps(2, 5000, (((0, ""), (4999, "")),)), swap(2, 5000, (0, ""), (4999, "")))
        self.check_error(InvalidOperation, KEEPS_NOTHING, product_of_swaps, 2, 5000, (((0, "0"), (4999, "")),))

    def test_long_lists(self):
        chance = random.Random(6)
        words = ["".join(chance.choice("01") for _ in range(12)) for _ in range(60)]
        swaps = [((0, chance.choice(words)), (0, chance.choice(words))) for _ in range(300)]
        swaps = tuple([pair for pair in swaps if pair[0] != pair[1]][:200])
        table = product_of_swaps(2, 1, swaps)
        self.assertIs(is_swaps(table, swaps), True)
        self.assertIs(is_swaps(~table, swaps[::-1]), True)
        self.assertIs(is_swaps(table, swaps[1:]), False)
        stream = (0, words[0], "01" if words[0].endswith("0") else "10")
        image = stream
        for one, other in swaps:
            image = plain_cycle_image(image, (one, other))
        self.assertEqual(table(stream), image)

    def test_swaps_above_earlier_ones(self):
        swaps = (((0, "00"), (0, "1")), ((0, "0"), (0, "10")), ((0, "011"), (0, "0101")), ((1, ""), (0, "")))
        product = Table.identity(2, roots=2)
        for one, other in swaps:
            product = swap(2, 2, one, other) * product
        self.assertEqual(product_of_swaps(2, 2, swaps), product)

    def test_errors(self):
        for value in NO_TABLES:
            self.check_error(InvalidTable, KEEPS_NOTHING, swaps_of, value)
            self.check_error(InvalidTable, KEEPS_NOTHING, is_swaps, value, None)
        for table in (SPLIT, GATHER, in_order(2, comb_code(2, 12), comb_code(2, 11) + ((1, ""),))):
            self.check_error(InvalidOperation, KEEPS_NOTHING, swaps_of, table)
            self.check_error(InvalidOperation, KEEPS_NOTHING, is_swaps, table, None)
        for size in (9, 10, 5000):
            table = Table(2, *zip(comb_code(2, size), comb_code(2, size)[::-1]))
            if size > 9:
                self.check_error(TooMany, 9, swaps_of, table)
            else:
                self.assertIs(is_swaps(table, swaps_of(table)), True)
            self.assertIs(is_swaps(table, None), False)
        for base in NO_BASES:
            self.check_error(InvalidNumber, base, product_of_swaps, base, 0, None)
        for roots in NO_ROOTS:
            self.check_error(InvalidNumber, roots, product_of_swaps, 2, roots, None)


class SignTest(Case):

    def test_signs(self):
        chance = random.Random(7)
        for base in (3, 5):
            for _ in range(60):
                rows = chance_rows(chance, base, chance.choice((1, base)), chance.choice((1, base)), 9)
                table = Table(base, *rows)
                crossed = sum(1 for one in rows for other in rows if one[0] < other[0] and one[1] > other[1])
                self.assertEqual(sign(table), -1 if crossed % 2 else 1)
                self.assertEqual(sign(~table), sign(table))
                more = Table(base, *chance_rows(chance, base, table.right_roots, table.left_roots, 6))
                self.assertEqual(sign(table * more), sign(table) * sign(more))

    def test_swaps_have_the_sign_minus_one(self):
        self.assertEqual(sign(swap(3, 1, (0, "0"), (0, "12"))), -1)
        self.assertEqual(sign(swap(5, 2, (1, ""), (0, "3201"))), -1)
        self.assertEqual([sign(cycle(3, 1, (0, "0"), (0, "1"), (0, "2"))), sign(GATHER)], [1, 1])
        self.assertEqual(sign(Table.identity(3, roots=7)), 1)
        for table in squares(8, 60):
            if table.base % 2:
                self.assertEqual(sign(table), (-1) ** len(swaps_of(table)))
        code = tuple((0, word) for _, word in comb_code(3, 4999))
        self.assertEqual(sign(Table(3, *zip(code, code[::-1]))), (-1) ** (4999 * 4998 // 2))

    def test_errors(self):
        for value in NO_TABLES:
            self.check_error(InvalidTable, KEEPS_NOTHING, sign, value)
        for table in (F, SPLIT, Table.identity(4)):
            self.check_error(InvalidOperation, KEEPS_NOTHING, sign, table)

    def test_a_swap_is_the_product_of_the_swaps_of_its_children(self):
        for base in (2, 3, 4, 5):
            product = Table.identity(base)
            for digit in "01234"[:base]:
                product = swap(base, 1, (0, "0" + digit), (0, "1" + digit)) * product
            self.assertEqual(product, swap(base, 1, (0, "0"), (0, "1")))


if __name__ == "__main__":
    unittest.main()
