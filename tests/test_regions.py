"""[8.1] and the class Region, image, preimage, is_kept and kept_part of prefixtable.sets.regions."""

import random
import unittest

from prefixtable.errors import InvalidNumber, InvalidOperation, InvalidPrefix, InvalidRegion, InvalidTable, TooMany
from prefixtable.sets.regions import Region, image, is_kept, kept_part, preimage
from prefixtable.tables.table import Table
from small import NOT_SQUARE, TEN, TWO_ROOTS, small_tables
from support import (
    KEEPS_NOTHING, OTHER_VALUES, Case, all_streams, all_words, chance_family, chance_rows, chance_streams, changed,
    plain_beginning, plain_prefix, plain_stream)
from tables import FLIP, GATHER, LAST, NO_TABLES, SPLIT, F, G
from test_codes import comb_code
from test_streams import NO_PREFIXES
from test_words import NO_BASES, NO_ROOTS

X, ZERO = Region(2, 1, (0, "1"), (0, "00"), (0, "10")), Region(2, 1, (0, "0"))
NO_REGIONS = OTHER_VALUES + [F, ((0, "0"),), ZERO.prefixes, str(ZERO), [ZERO], (ZERO,), {0: ZERO}]
SIXTY_ONE = Table(2, *[((0, left[1]), (0, right[1])) for left, right in
                       zip(comb_code(2, 61), comb_code(2, 61)[1:] + comb_code(2, 61)[:1])])


def plain_under(stream, prefixes):
    """Tell by the definition whether a stream begins with one of some prefixes."""
    return any(root == stream[0] and plain_beginning(stream, len(word)) == word for root, word in prefixes)


def plain_least_prefixes(base, prefixes):
    """Return the least prefixes, by taking away and contracting as long as something changes."""
    found = set(prefixes)
    again = True
    while again:
        again = False
        for root, word in sorted(found):
            if any((root, word[:size]) in found for size in range(len(word))):
                found.remove((root, word))
                again = True
            elif word and all((root, word[:-1] + digit) in found for digit in "01234"[:base]):
                found = (found - {(root, word[:-1] + digit) for digit in "01234"[:base]}) | {(root, word[:-1])}
                again = True
                break
    return tuple(sorted(found))


def chance_prefixes(chance, base, roots, many, depth=4):
    """Return so many prefixes with short words."""
    words = ["".join(chance.choice("01234"[:base]) for _ in range(chance.randrange(depth + 1))) for _ in range(many)]
    return tuple((chance.randrange(roots), word) for word in words)


def under(word, many):
    """Return so many prefixes under the word of the root 0 that are apart and no children of one another's."""
    return [(0, word + more) for _, more in comb_code(2, 2 * many + 2)[:2 * many:2]]


def chance_regions(seed, many):
    """Return tuples of a base, a number of roots, prefixes, and their region."""
    chance = random.Random(seed)
    found = [(2, 1, (), Region(2, 1)), (2, 1, ((0, ""),), Region(2, 1, (0, ""))), (5, 3, (), Region(5, 3))]
    while len(found) < many:
        base, roots = chance.randrange(2, 6), chance.randrange(1, 4)
        prefixes = chance_prefixes(chance, base, roots, chance.randrange(14), chance.randrange(1, 5))
        found.append((base, roots, prefixes, Region(base, roots, *prefixes)))
    return found


def streams_of(base, roots):
    """Return streams that tell short prefixes from one another."""
    return all_streams(base, range(roots), 2 if base > 2 else 4, 2)


class ExamplesTest(Case):

    def test_printed_examples(self):
        self.assertEqual([X.prefixes, (~X).prefixes, (X & ZERO).prefixes, X | ZERO == Region.whole(2, 1),
                          (0, "", "0") in X, (0, "00") in X],
                         [((0, "00"), (0, "1")), ((0, "01"),), ((0, "00"),), True, True, False])
        self.assertEqual([(X & ZERO).within(ZERO), ZERO.has_prefix((0, "01")), len(X), bool(X - X), str(X - X)],
                         [True, True, 2, False, "base 2 region 1: none"])
        self.assertEqual([image(G, X).prefixes, preimage(G, ZERO).prefixes, is_kept(FLIP, ZERO),
                          is_kept(G, Region.whole(2, 1))], [((0, "0"), (0, "11")), ((0, "00"),), False, True])
        self.assertEqual([kept_part(G, ZERO, steps=1).prefixes, kept_part(G, ZERO, steps=3).prefixes],
                         [((0, "00"),), ((0, "0000"),)])
        self.assertEqual(str(Region(2, 1, (0, "00"), (0, "1"))), "base 2 region 1: 0:00 0:1")
        self.assertEqual(Region.MOST, 5000)


class MakingTest(Case):

    def test_least_prefixes(self):
        for base, roots, prefixes, region in chance_regions(1, 400):
            self.assertEqual(region.prefixes, plain_least_prefixes(base, prefixes))
            self.assertEqual(Region.of(base, roots, prefixes[::-1] + prefixes), region)
            self.assertEqual([region.region_base, region.region_roots], [base, roots])

    def test_prefixes_over_several_levels(self):
        for base in (2, 3, 4, 5):
            words = [word for word in all_words(base, 4) if len(word) == 4]
            self.assertEqual(Region(base, 2, *[(1, word) for word in words]).prefixes, ((1, ""),))
            self.assertEqual(Region(base, 2, *[(1, word) for word in words[1:]]).prefixes,
                             plain_least_prefixes(base, [(1, word) for word in words[1:]]))
            self.assertEqual(Region(base, 2, (0, ""), *[(1, word) for word in words]), Region.whole(base, 2))
            self.assertEqual(Region(base, 3, (2, ""), (0, "")).prefixes, ((0, ""), (2, "")))
        deep = comb_code(3, 2001)
        self.assertEqual(Region.of(3, 1, deep).prefixes, ((0, ""),))
        self.assertEqual(Region.of(3, 1, deep[:-1]).prefixes, deep[:-1])

    def test_any_number_of_prefixes(self):
        words = [format(at, "014b") for at in range(2 ** 14)]
        self.assertEqual(Region(2, 1, *[(0, word) for word in words]).prefixes, ((0, ""),))
        self.assertEqual(Region(2, 1, *[(0, word) for word in words] * 2), Region.whole(2, 1))
        comb = comb_code(2, 10003)
        self.assertEqual(len(Region.of(2, 1, comb[:10000:2])), 5000)
        self.check_error(TooMany, 5000, Region.of, 2, 1, comb[:10002:2])
        self.check_error(TooMany, 5000, Region, 2, 1, *comb[:10002:2])
        self.assertEqual(len(Region.whole(2, 5000)), 5000)
        self.assertEqual(len(Region(2, 1, (0, "1" * 3000))), 1)

    def test_errors(self):
        for base in NO_BASES:
            for call, more in ((Region, (0, None)), (Region.of, (0, None)), (Region.whole, (0,))):
                self.check_error(InvalidNumber, base, call, base, *more)
        for roots in NO_ROOTS:
            self.check_error(InvalidNumber, roots, Region, 2, roots, None)
            self.check_error(InvalidNumber, roots, Region.of, 2, roots, None)
            self.check_error(InvalidNumber, roots, Region.whole, 2, roots)
        for value in NO_PREFIXES + [(1, ""), F, ((0, ""),)]:
            self.check_error(InvalidPrefix, KEEPS_NOTHING, Region, 2, 1, value)
            self.check_error(InvalidPrefix, KEEPS_NOTHING, Region, 2, 1, (0, "0"), value, (0, "1"))
            self.check_error(InvalidPrefix, KEEPS_NOTHING, Region.of, 2, 1, ((0, "0"), value))
        for value in (None, 3, "0", [(0, "0")], {}, {(0, "0"): 1}, ZERO, (0, "0")):
            self.check_error(InvalidPrefix, KEEPS_NOTHING, Region.of, 2, 1, value)
        self.check_error(InvalidPrefix, KEEPS_NOTHING, Region.of, 2, 1, comb_code(2, 10003)[:10002:2] + ((0, "2"),))

    def test_state_is_out_of_reach(self):
        prefixes = [(0, "0"), (0, "11")]
        region = Region(2, 1, *prefixes)
        prefixes.clear()
        self.assertEqual(region.prefixes, ((0, "0"), (0, "11")))
        for name in ("prefixes", "region_base", "region_roots"):
            with self.assertRaises(AttributeError):
                setattr(region, name, None)


class SetsTest(Case):

    def test_operators_against_single_streams(self):
        told = chance_regions(2, 120)
        for base, roots, _, one in told:
            others = [other for same, as_many, _, other in told if (same, as_many) == (base, roots)][:3]
            streams = streams_of(base, roots)[::3]
            for other in others + [Region(base, roots), Region.whole(base, roots), one]:
                results = [one | other, one & other, one - other, ~one]
                for result in results:
                    self.assertEqual(result.prefixes, plain_least_prefixes(base, result.prefixes))
                    self.assertEqual([result.region_base, result.region_roots], [base, roots])
                for stream in streams:
                    left, right = plain_under(stream, one.prefixes), plain_under(stream, other.prefixes)
                    self.assertEqual([stream in result for result in results],
                                     [left or right, left and right, left and not right, not left])

    def test_laws(self):
        told = chance_regions(3, 200)
        for base, roots, _, one in told:
            for same, as_many, _, other in told[:40]:
                if (same, as_many) == (base, roots):
                    self.assertEqual(one - other, one & ~other)
                    self.assertEqual(~(one | other), ~one & ~other)
                    self.assertEqual((one - other) | (one & other), one)
                    self.assertIs(one.within(other), not one - other)
                    self.assertIs((one & other).within(one), True)
                    self.assertIs(one.within(one | other), True)
            self.assertEqual([~~one, one - one, one | ~one], [one, Region(base, roots), Region.whole(base, roots)])

    def test_results_with_many_prefixes(self):
        comb = comb_code(2, 10003)
        most = Region.of(2, 1, comb[:10000:2])
        self.assertEqual(len(~most), 5000)
        self.assertEqual([~~most, most | ~most], [most, Region.whole(2, 1)])
        self.assertEqual(len(Region.of(2, 1, comb[1:10000:2]) & most), 0)
        self.check_error(TooMany, 5000, lambda: most | Region(2, 1, comb[10001]))
        self.check_error(TooMany, 5000, lambda: most | Region.of(2, 1, comb[1:9999:2]))
        # The complement of one long prefix has as many prefixes as it has digits.
        self.assertEqual(len(~Region(2, 1, (0, "01" * 2500))), 5000)
        self.check_error(TooMany, 5000, lambda: ~Region(2, 1, (0, "01" * 2500 + "0")))
        self.check_error(TooMany, 5000, lambda: ~Region(2, 1, (0, "01" * 150000)))
        self.check_error(TooMany, 5000, lambda: Region.whole(2, 1) - Region(2, 1, (0, "0" * 6000)))
        self.assertEqual(len(~Region(5, 1, (0, "3" * 1250))), 5000)
        self.check_error(TooMany, 5000, lambda: ~Region(5, 1, (0, "3" * 1251)))
        # But a difference can be small although the complement is large.
        self.assertEqual(ZERO - Region(2, 1, (0, "1" * 6000)), ZERO)
        self.assertEqual((ZERO - Region(2, 1, (0, "0" * 300))).prefixes,
                         tuple((0, "0" * at + "1") for at in range(299, 0, -1)))
        self.assertEqual(len(Region(2, 1, (0, "0" * 6000)) - Region(2, 1, (0, "0" * 6000 + "1"))), 1)

    def test_intersections_with_many_prefixes(self):
        for many, fits in ((2500, True), (2501, False)):
            one, other = (Region(2, 1, (0, digit), *under("10"[int(digit)], many)) for digit in "01")
            self.assertEqual([len(one), len(other)], [many + 1, many + 1])
            self.assertEqual(one | other, Region.whole(2, 1))
            if fits:
                self.assertEqual(len(one & other), 5000)
            else:
                self.check_error(TooMany, 5000, lambda: one & other)

    def test_errors_of_operators(self):
        calls = [lambda one, other: one | other, lambda one, other: one & other, lambda one, other: one - other,
                 lambda one, other: one.within(other)]
        for call in calls:
            for value in NO_REGIONS + [Region(3, 1), Region(2, 2), Region.whole(2, 5000)]:
                self.check_error(InvalidRegion, KEEPS_NOTHING, call, ZERO, value)

    def test_membership(self):
        for value in OTHER_VALUES + [(0, "00"), ZERO, F, (0, "1", "01"), (0, "", "00"), (1, "", "0"), [0, "", "0"]]:
            self.assertIs(value in Region.whole(2, 1), plain_stream(2, 1, value))
        for stream in ((0, "", "0"), (0, "01", "10")):
            for value in changed(stream):
                fits = plain_stream(2, 1, value)
                self.assertIs(value in Region.whole(2, 1), fits)
                self.assertIs(value in ZERO, fits and plain_under(value, ((0, "0"),)))
                self.assertIs(value in Region(2, 1), False)
        deep = Region.of(2, 1, comb_code(2, 10003)[:10000:2])
        self.assertEqual([(0, "1" * 4000, "0") in deep, (0, "1" * 4001, "0") in deep, (0, "", "1") in deep],
                         [True, False, False])

    def test_has_prefix(self):
        for base, roots, prefixes, region in chance_regions(4, 40):
            streams = streams_of(base, roots)
            for prefix in [(root, word) for root in range(roots) for word in all_words(base, 2)]:
                below = [stream for stream in streams if plain_under(stream, (prefix,))]
                whole = not Region(base, roots, prefix) - region
                self.assertIs(region.has_prefix(prefix), whole)
                self.assertTrue(not whole or all(stream in region for stream in below))
        for value in NO_PREFIXES + OTHER_VALUES + [(1, "")]:
            if not plain_prefix(2, 1, value):
                self.check_error(InvalidPrefix, KEEPS_NOTHING, ZERO.has_prefix, value)

    def test_equality_truth_length_and_text(self):
        told = chance_regions(5, 120)
        for base, roots, _, one in told:
            for same, as_many, _, other in told:
                equal = (base, roots, one.prefixes) == (same, as_many, other.prefixes)
                self.assertIs(one == other, equal)
                self.assertIs(one != other, not equal)
            self.assertIs(bool(one), len(one.prefixes) > 0)
            self.assertEqual(len(one), len(one.prefixes))
            words = " ".join(f"{root}:{word or '-'}" for root, word in one.prefixes) or "none"
            self.assertEqual(str(one), f"base {base} region {roots}: {words}")
        for value in NO_REGIONS:
            self.assertIs(ZERO == value, False)
            self.assertIs(ZERO != value, True)
        self.assertEqual(str(Region.whole(3, 2)), "base 3 region 2: 0:- 1:-")
        self.assertEqual(str(Region(5, 12, (11, "40"), (2, ""))), "base 5 region 12: 2:- 11:40")
        self.assertIs(Region(2, 1) == Region(2, 2), False)
        self.assertIs(Region(2, 1) == Region(3, 1), False)


def tables_with_regions(seed, many):
    """Return pairs of a table and a region of its left roots."""
    chance = random.Random(seed)
    found = []
    for base, left, right in chance_family(chance, many):
        table = Table(base, *chance_rows(chance, base, left, right, chance.randrange(1, 12)))
        found.append((table, Region(base, left, *chance_prefixes(chance, base, left, chance.randrange(7), 3))))
    return found


class ImagesTest(Case):

    def test_images(self):
        chance = random.Random(6)
        for table, region in tables_with_regions(6, 200):
            told = image(table, region)
            self.assertEqual([told.region_base, told.region_roots], [table.base, table.right_roots])
            self.assertEqual(told.prefixes, plain_least_prefixes(table.base, told.prefixes))
            self.assertEqual(preimage(table, told), region)
            for stream in chance_streams(chance, table.base, table.left_roots, 40):
                self.assertIs(table(stream) in told, stream in region)
            other = Region.of(table.base, table.right_roots,
                              chance_prefixes(chance, table.base, table.right_roots, 4, 3))
            back = preimage(table, other)
            self.assertEqual(back.region_roots, table.left_roots)
            for stream in chance_streams(chance, table.base, table.left_roots, 40):
                self.assertIs(stream in back, table(stream) in other)

    def test_numbers_of_roots(self):
        self.assertEqual(image(SPLIT, ZERO).prefixes, ((0, ""),))
        self.assertEqual(image(SPLIT, Region(2, 1, (0, "11"), (0, "0"))).prefixes, ((0, ""), (1, "1")))
        self.assertEqual(preimage(SPLIT, Region(2, 2, (1, "1"))).prefixes, ((0, "11"),))
        self.assertEqual(image(GATHER, Region(3, 3, (0, ""), (1, ""), (2, ""))).prefixes, ((0, ""),))
        self.assertEqual(image(GATHER, Region(3, 3)).prefixes, ())

    def test_is_kept(self):
        for table, region in tables_with_regions(7, 300):
            if table.is_square:
                self.assertIs(is_kept(table, region), image(table, region) == region)
                self.assertIs(is_kept(table, Region.whole(table.base, table.left_roots)), True)
                self.assertIs(is_kept(table, Region(table.base, table.left_roots)), True)
        self.assertIs(is_kept(LAST, Region(2, 1, (0, "1"))), True)
        self.assertIs(is_kept(G, Region(2, 1, (0, "1"))), False)
        self.assertIs(is_kept(~G, Region(2, 1, (0, "1"))), False)

    def test_images_with_many_prefixes(self):
        for many, fits in ((4999, True), (5000, False)):
            # The table takes the one prefix 0 to two prefixes that are apart from all other ones.
            region = Region(2, 1, (0, "0"), *under("11", many - 1))
            table = Table(2, ((0, "00"), (0, "000")), ((0, "01"), (0, "10")), ((0, "10"), (0, "001")),
                          ((0, "110"), (0, "01")), ((0, "111"), (0, "11")))
            self.assertEqual(len(region), many)
            if fits:
                self.assertEqual(len(image(table, region)), 5000)
                self.assertEqual(preimage(table, image(table, region)), region)
            else:
                self.check_error(TooMany, 5000, image, table, region)
                self.check_error(TooMany, 5000, preimage, ~table, region)
            self.assertIs(is_kept(table, region), False)
            self.assertEqual(kept_part(table, region, steps=0), region)

    def test_errors(self):
        for call in (image, preimage, is_kept):
            for value in NO_TABLES:
                self.check_error(InvalidTable, KEEPS_NOTHING, call, value, None)
            for value in NO_REGIONS + [Region(3, 1), Region(2, 2)]:
                self.check_error(InvalidRegion, KEEPS_NOTHING, call, F, value)
        for table in NOT_SQUARE:
            self.check_error(InvalidOperation, KEEPS_NOTHING, is_kept, table, None)
        self.check_error(InvalidRegion, KEEPS_NOTHING, image, SPLIT, Region(2, 2))
        self.check_error(InvalidRegion, KEEPS_NOTHING, preimage, SPLIT, Region(2, 1))


class KeptPartTest(Case):

    def check_kept(self, table, region, steps):
        told = kept_part(table, region, steps=steps)
        self.assertEqual(told.prefixes, plain_least_prefixes(table.base, told.prefixes))
        for stream in streams_of(table.base, table.left_roots)[:150]:
            at, fits = stream, stream in region
            for _ in range(steps):
                at = table(at)
                fits = fits and at in region
            self.assertIs(stream in told, fits)

    def test_kept_parts(self):
        for table, region in tables_with_regions(8, 250):
            if table.is_square:
                for steps in (0, 1, 2, 5, 13):
                    self.check_kept(table, region, steps)

    def test_many_steps(self):
        self.assertEqual(kept_part(G, ZERO, steps=60).prefixes, ((0, "0" * 61),))
        self.assertEqual(kept_part(G, ZERO, steps=0), ZERO)
        self.assertEqual(kept_part(G, Region(2, 1, (0, "1")), steps=60).prefixes, ((0, "1"),))
        self.assertEqual(kept_part(F, ZERO, steps=60), Region(2, 1))
        self.assertEqual(kept_part(FLIP, Region.whole(2, 1), steps=60), Region.whole(2, 1))
        self.assertEqual(kept_part(TWO_ROOTS, Region(2, 2, (1, "")), steps=1).prefixes, ((1, "0"),))
        for table in small_tables(3, 20):
            self.check_kept(table, Region(table.base, table.left_roots, (0, "0")), 60)

    def test_too_many_prefixes(self):
        for many, fits in ((1250, True), (1251, False)):
            # In each half the prefix of one part is as large as the many ones of the same part in the other half.
            region = Region(2, 1, (0, "00"), *under("01", many), (0, "11"), *under("10", many))
            self.assertEqual(len(region), 2 * many + 2)
            for steps in (1, 2, 60):
                if fits:
                    self.assertEqual(len(kept_part(FLIP, region, steps=steps)), 5000)
                else:
                    self.check_error(TooMany, 5000, kept_part, FLIP, region, steps=steps)
            self.assertEqual(kept_part(FLIP, region, steps=0), region)
            self.assertIs(is_kept(FLIP, region), False)

    def test_errors(self):
        for value in NO_TABLES:
            self.check_error(InvalidTable, KEEPS_NOTHING, kept_part, value, None, steps=None)
        for table in NOT_SQUARE:
            self.check_error(InvalidOperation, KEEPS_NOTHING, kept_part, table, None, steps=None)
        for value in NO_REGIONS + [Region(3, 1), Region(2, 2)]:
            self.check_error(InvalidRegion, KEEPS_NOTHING, kept_part, SIXTY_ONE, value, steps=None)
        for steps in (-1, 61, 10 ** 59, True, False, None, "1", (1,), [], F):
            self.check_error(InvalidNumber, steps, kept_part, F, ZERO, steps=steps)
            self.check_error(InvalidNumber, steps, kept_part, SIXTY_ONE, ZERO, steps=steps)
        self.assertEqual(len(SIXTY_ONE), 61)
        self.check_error(TooMany, 60, kept_part, SIXTY_ONE, ZERO, steps=0)
        self.assertEqual(kept_part(TEN, ZERO, steps=0), ZERO)


if __name__ == "__main__":
    unittest.main()
