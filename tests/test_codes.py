"""[0.9], [2.1] to [2.3] and the functions of stage 2."""

import random
import unittest

from prefixtable.base import codes
from prefixtable.base.codes import (
    code_from, code_through, code_through_all, codes_of_size, contracted, count_codes, expanded, inner_nodes, is_code,
    joined, joined_all, make_code, met, met_all, prefix_in, refines, root_code)
from prefixtable.errors import InvalidCode, InvalidNumber, InvalidPrefix, InvalidStream, TooMany
from support import (
    KEEPS_NOTHING, OTHER_VALUES, Case, all_words, chance_code, changed, plain_beginning, plain_code, plain_codes,
    plain_inner)
from test_streams import NO_PREFIXES, NO_STREAMS
from test_words import NO_BASES, NO_ROOTS

A = ((0, "0"), (0, "10"), (0, "11"))
B = ((0, "00"), (0, "01"), (0, "1"))
NO_CODES = [None, 3, "0", (), A[:2], A[1:], A + A[-1:], A[::-1], list(A), (list(A[0]),) + A[1:], A + ((1, "0"),),
            ((1, ""),), ((0, ""), (2, "")), ((0, "0"), (0, "1"), (0, "2")), ((False, ""),), ((0, ""), (True, "")),
            ((0, ""), (0, "0")), ((0, ""), (0, "0"), (0, "1")), (0, ""), ((0, ""), None), {(0, ""): 1}, ((0, "0"),)]
SMALL_CODES = [(base, roots, code) for base, roots, most in ((2, 1, 5), (2, 3, 5), (3, 1, 7), (4, 2, 8), (5, 1, 9))
               for size in range(1, most + 1) for code in plain_codes(base, roots, size)]


def comb_code(base, size):
    """Return the code of one root with about so many prefixes in which each prefix but the last ones is left alone."""
    depth = (size - 1) // (base - 1)
    last = str(base - 1)
    aside = [(0, last * at + digit) for at in range(depth) for digit in "01234"[:base - 1]]
    return tuple(sorted(aside + [(0, last * depth)]))


class ExamplesTest(Case):

    def test_printed_examples(self):
        self.assertEqual(codes.MAX_ROWS, 5000)
        self.assertEqual([is_code(2, 1, A), is_code(2, 1, A[:2]), is_code(3, 1, A), root_code(2)],
                         [True, False, False, ((0, ""), (1, ""))])
        self.assertEqual(make_code(2, 1, (0, "11"), (0, "0"), (0, "10")), A)
        self.assertEqual([code_through(2, 1, (0, "10"), (0, "1")) == A, code_through(2, 1),
                          code_through(2, 2, (1, "0"))], [True, ((0, ""),), ((0, ""), (1, "0"), (1, "1"))])
        self.assertEqual([inner_nodes(2, A), expanded(2, ((0, "0"), (0, "1")), (0, "1")) == A,
                          contracted(2, A, (0, "1"))], [((0, ""), (0, "1")), True, ((0, "0"), (0, "1"))])
        self.assertEqual([joined(2, A, B), met(2, A, B), joined(2, A) == A],
                         [((0, "00"), (0, "01"), (0, "10"), (0, "11")), ((0, "0"), (0, "1")), True])
        self.assertEqual([refines(2, joined(2, A, B), A), refines(2, A, B), prefix_in(2, A, (0, "", "10"))],
                         [True, False, (0, "10")])
        self.assertEqual([list(codes_of_size(2, 1, 3)) == [A, B], list(codes_of_size(3, 1, 2)), count_codes(2, 1, 4),
                          count_codes(3, 2, 6)], [True, [], 5, 7])


class IsCodeTest(Case):

    def test_right_codes(self):
        for base, roots, code in SMALL_CODES:
            self.assertIs(is_code(base, roots, code), True, code)
            self.assertIs(is_code(base, roots + 1, code), False)
            self.assertIs(is_code(base, 5000, code), False)

    def test_codes_with_one_change(self):
        for base, roots, code in SMALL_CODES:
            for at in range(len(code)):
                root, word = code[at]
                for other in (code[:at] + code[at + 1:], code[:at] + code[at:at + 1] + code[at:],
                              code[at + 1:] + code[:at + 1], code[:at] + ((root, word + "0"),) + code[at + 1:],
                              code[:at] + ((root, word[:-1]),) + code[at + 1:],
                              code[:at] + ((root, word[::-1]),) + code[at + 1:],
                              code[:at] + ((root + 1, word),) + code[at + 1:]):
                    self.assertIs(is_code(base, roots, other), plain_code(base, roots, other), other)

    def test_values_of_other_kinds(self):
        for value in OTHER_VALUES + NO_CODES:
            self.assertIs(is_code(2, 1, value), plain_code(2, 1, value) and value != (), value)
        for code in (A, ((0, ""), (1, "0"), (1, "1")), root_code(3)):
            for value in changed(code):
                for roots in (1, 2, 3):
                    self.assertIs(is_code(2, roots, value), plain_code(2, roots, value), value)

    def test_large_codes(self):
        for code in (comb_code(2, 5000), tuple((0, format(at, "012b")) for at in range(4096)), root_code(5000)):
            roots = code[-1][0] + 1
            self.assertIs(is_code(2, roots, code), True)
            for at in (0, 1, 700, len(code) - 1):
                self.assertIs(is_code(2, roots, code[:at] + code[at + 1:]), False)
                self.assertIs(is_code(2, roots, code[:at] + code[at:at + 1] + code[at:]), False)
        self.assertIs(is_code(5, 1, comb_code(5, 4997)), True)
        self.assertIs(is_code(2, 1, comb_code(2, 5001)), False)
        self.assertIs(is_code(5, 1, comb_code(5, 5001)), False)

    def test_errors(self):
        for base in NO_BASES:
            self.check_error(InvalidNumber, base, is_code, base, 0, None)
        for roots in NO_ROOTS:
            self.check_error(InvalidNumber, roots, is_code, 2, roots, None)
            self.check_error(InvalidNumber, roots, root_code, roots)
        self.assertEqual(root_code(1), ((0, ""),))
        self.assertEqual(root_code(5000), tuple((root, "") for root in range(5000)))


class MakeCodeTest(Case):

    def test_any_order(self):
        chance = random.Random(1)
        for base, roots, code in SMALL_CODES:
            mixed = list(code)
            chance.shuffle(mixed)
            self.assertEqual(make_code(base, roots, *mixed), code)
            self.assertEqual(code_from(base, roots, tuple(mixed)), code)

    def test_errors(self):
        for prefixes in ((), A[:2], A + A[:1], A + ((0, "110"),), ((0, ""), (0, "0")), comb_code(2, 5001)):
            self.check_error(InvalidCode, KEEPS_NOTHING, make_code, 2, 1, *prefixes)
            self.check_error(InvalidCode, KEEPS_NOTHING, code_from, 2, 1, prefixes)
        for prefix in NO_PREFIXES + [(1, "")]:
            self.check_error(InvalidPrefix, KEEPS_NOTHING, make_code, 2, 1, (0, ""), prefix)
            self.check_error(InvalidPrefix, KEEPS_NOTHING, code_from, 2, 1, (prefix, (0, "")))
            self.check_error(InvalidPrefix, KEEPS_NOTHING, code_through, 2, 1, (0, ""), prefix)
            self.check_error(InvalidPrefix, KEEPS_NOTHING, code_through, 2, 1, (0, "0" * 6000), prefix)
            self.check_error(InvalidPrefix, KEEPS_NOTHING, code_through_all, 2, 1, (prefix, (0, "")))
        for value in (None, 3, "0", list(A), {}, True):
            self.check_error(InvalidPrefix, KEEPS_NOTHING, code_from, 2, 1, value)
            self.check_error(InvalidPrefix, KEEPS_NOTHING, code_through_all, 2, 1, value)
        for call, last in ((make_code, (0, "2")), (code_from, None), (code_through, (0, "2")), (code_through_all, [])):
            for base in NO_BASES:
                self.check_error(InvalidNumber, base, call, base, 0, last)
            for roots in NO_ROOTS:
                self.check_error(InvalidNumber, roots, call, 2, roots, last)


class CodeThroughTest(Case):

    def test_fewest_prefixes(self):
        chance = random.Random(2)
        for base, roots, most in ((2, 1, 7), (2, 2, 6), (3, 1, 7), (3, 2, 8)):
            every = [code for size in range(1, most + 1) for code in plain_codes(base, roots, size)]
            words = all_words(base, 2)
            for _ in range(60):
                told = tuple((chance.randrange(roots), chance.choice(words)) for _ in range(chance.randrange(4)))
                fitting = [code for code in every if all(node in code + plain_inner(code) for node in told)]
                if fitting:
                    least = min(fitting, key=len)
                    self.assertEqual(code_through(base, roots, *told), least)
                    self.assertEqual(code_through_all(base, roots, told), least)
                    self.assertEqual([code for code in fitting if len(code) == len(least)], [least])

    def test_repeated_and_overlapping_prefixes(self):
        told = ((0, "10"), (0, "1"), (0, "10"), (0, ""))
        self.assertEqual(code_through(2, 1, *told), A)
        self.assertEqual(code_through_all(2, 1, ()), ((0, ""),))

    def test_limits(self):
        self.assertEqual(code_through(2, 1, (0, "1" * 4999)), comb_code(2, 5000))
        self.check_error(TooMany, 5000, code_through, 2, 1, (0, "1" * 5000))
        self.check_error(TooMany, 5000, code_through, 2, 1, (0, "1" * 200000), (0, "0"))
        self.assertEqual(len(code_through(5, 4, (3, "01234" * 249 + "0123"), (0, ""))), 5000)
        self.check_error(TooMany, 5000, code_through, 5, 4, (3, "01234" * 249 + "0123"), (0, "4"))
        self.assertEqual(len(code_through(5, 4, (3, "01234" * 249 + "012"), (0, "4"))), 5000)
        self.assertEqual(code_through(2, 5000, (7, "")), root_code(5000))
        self.check_error(TooMany, 5000, code_through_all, 2, 5000, ((7, "0"),))
        words = tuple((0, format(at, "013b")) for at in range(5000))
        self.check_error(TooMany, 5000, code_through_all, 2, 1, words)
        self.assertEqual(len(code_through_all(2, 1, words[:2048])), 2048 + 2)


class NodesTest(Case):

    def test_inner_nodes(self):
        for base, roots, code in SMALL_CODES:
            inner = inner_nodes(base, code)
            self.assertEqual(inner, plain_inner(code))
            self.assertEqual(len(code), roots + len(inner) * (base - 1))
        self.assertEqual(inner_nodes(2, comb_code(2, 5000)), tuple((0, "1" * at) for at in range(4999)))
        self.assertEqual(inner_nodes(2, root_code(5000)), ())

    def test_expanded_and_contracted_undo_one_another(self):
        for base, roots, code in SMALL_CODES:
            for prefix in code:
                wider = expanded(base, code, prefix)
                self.assertTrue(plain_code(base, roots, wider))
                self.assertEqual(set(plain_inner(wider)) - set(plain_inner(code)), {prefix})
                self.assertEqual(len(wider), len(code) + base - 1)
                self.assertEqual(contracted(base, wider, prefix), code)
            for prefix in plain_inner(code):
                if all((prefix[0], prefix[1] + digit) in code for digit in "01234"[:base]):
                    self.assertEqual(expanded(base, contracted(base, code, prefix), prefix), code)
                else:
                    self.check_error(InvalidPrefix, KEEPS_NOTHING, contracted, base, code, prefix)
                self.check_error(InvalidPrefix, KEEPS_NOTHING, expanded, base, code, prefix)
            for prefix in code:
                self.check_error(InvalidPrefix, KEEPS_NOTHING, contracted, base, code, prefix)

    def test_limits(self):
        most = comb_code(2, 5000)
        self.check_error(TooMany, 5000, expanded, 2, most, most[0])
        self.check_error(InvalidPrefix, KEEPS_NOTHING, expanded, 2, most, (0, ""))
        self.assertEqual(expanded(2, contracted(2, most, (0, "1" * 4998)), (0, "1" * 4998)), most)
        self.check_error(TooMany, 5000, expanded, 5, comb_code(5, 4997), (0, "0"))
        self.assertEqual(len(expanded(5, comb_code(5, 4993), (0, "0"))), 4997)

    def test_errors(self):
        for prefix in OTHER_VALUES + NO_PREFIXES + [(1, "0"), (0, "000"), (0, ""), (False, "0")]:
            if prefix != (0, "0") or prefix[0] is False:
                self.check_error(InvalidPrefix, KEEPS_NOTHING, expanded, 2, A, prefix)
                self.check_error(InvalidPrefix, KEEPS_NOTHING, contracted, 2, A, prefix)
        for prefix in ((0, "11"), (False, "1"), (1, "1")):
            self.check_error(InvalidPrefix, KEEPS_NOTHING, contracted, 2, A, prefix)
        self.assertEqual(contracted(2, A, (0, "1")), ((0, "0"), (0, "1")))
        for code in NO_CODES:
            self.check_error(InvalidCode, KEEPS_NOTHING, inner_nodes, 2, code)
            self.check_error(InvalidCode, KEEPS_NOTHING, expanded, 2, code, None)
            self.check_error(InvalidCode, KEEPS_NOTHING, contracted, 2, code, None)
        for base in NO_BASES:
            self.check_error(InvalidNumber, base, inner_nodes, base, None)
            self.check_error(InvalidNumber, base, expanded, base, None, None)
            self.check_error(InvalidNumber, base, contracted, base, None, None)

    def test_changed_codes_are_judged(self):
        for value in changed(((0, "0"), (0, "1"), (1, ""))):
            roots = [roots for roots in (1, 2, 3) if plain_code(2, roots, value) and value != ()]
            if roots:
                self.assertEqual(inner_nodes(2, value), plain_inner(value))
            else:
                self.check_error(InvalidCode, KEEPS_NOTHING, inner_nodes, 2, value)


class JoinsTest(Case):

    def test_joins_and_meets(self):
        chance = random.Random(3)
        for _ in range(300):
            base, roots = chance.choice(((2, 1), (2, 3), (3, 2), (4, 1), (5, 2)))
            told = tuple(chance_code(chance, base, roots, chance.randrange(7)) for _ in range(chance.randrange(1, 5)))
            told = told + told[:chance.randrange(2)]
            inner = [set(plain_inner(code)) for code in told]
            join, meet = joined(base, *told), met(base, *told)
            self.assertTrue(plain_code(base, roots, join) and plain_code(base, roots, meet))
            self.assertEqual(set(plain_inner(join)), set.union(*inner))
            self.assertEqual(set(plain_inner(meet)), set.intersection(*inner))
            mixed = list(told)
            chance.shuffle(mixed)
            self.assertEqual([joined_all(base, tuple(mixed)), met_all(base, tuple(mixed))], [join, meet])
            for code in told:
                self.assertTrue(refines(base, join, code) and refines(base, code, meet))
            for one in told:
                for other in told:
                    self.assertIs(refines(base, one, other), set(plain_inner(one)) >= set(plain_inner(other)))
                    self.assertIs(refines(base, one, other), all(
                        any(root == upper and word.startswith(short) for upper, short in other) for root, word in one))

    def test_limits(self):
        left = comb_code(2, 5000)
        right = tuple(sorted((0, word.translate({48: "1", 49: "0"})) for _, word in left))
        self.check_error(TooMany, 5000, joined, 2, left, right)
        self.check_error(TooMany, 5000, joined_all, 2, (left, A, right))
        self.assertEqual(met(2, left, right), ((0, "0"), (0, "1")))
        self.assertEqual(joined(2, left, A, ((0, "0"), (0, "1"))), left)
        half = comb_code(2, 2501)
        other = tuple(sorted((0, word.translate({48: "1", 49: "0"})) for _, word in half))
        self.assertEqual(len(joined(2, half, other)), 5000)
        self.check_error(InvalidCode, KEEPS_NOTHING, joined, 2, left, right, A[:2])

    def test_errors(self):
        two = ((0, ""), (1, ""))
        for single, twin in ((joined, joined_all), (met, met_all)):
            for base in NO_BASES:
                self.check_error(InvalidNumber, base, single, base, None)
                self.check_error(InvalidNumber, base, twin, base, None)
            for told in ((), (two, A), (A, two), (A, A, two), (A, None), (None,)):
                self.check_error(InvalidCode, KEEPS_NOTHING, single, 2, *told)
                self.check_error(InvalidCode, KEEPS_NOTHING, twin, 2, told)
            for value in (None, 3, [A, B], {A: B}, A, "0", True):
                self.check_error(InvalidCode, KEEPS_NOTHING, twin, 2, value)
            for code in NO_CODES:
                self.check_error(InvalidCode, KEEPS_NOTHING, single, 2, code)
                self.check_error(InvalidCode, KEEPS_NOTHING, single, 2, A, code, B)
        for code in NO_CODES + [two]:
            self.check_error(InvalidCode, KEEPS_NOTHING, refines, 2, A, code)
            if code != two:
                self.check_error(InvalidCode, KEEPS_NOTHING, refines, 2, code, A)
        for base in NO_BASES:
            self.check_error(InvalidNumber, base, refines, base, None, None)

    def test_prefix_in(self):
        streams = [(root, head, period) for root in (0, 1) for head, period in
                   (("", "0"), ("", "1"), ("", "01"), ("01", "10"), ("1110", "1"), ("0", "1"), ("", "0110"))]
        for base, roots, code in SMALL_CODES:
            for stream in streams:
                if stream[0] < roots:
                    prefix = prefix_in(base, code, stream)
                    self.assertIn(prefix, code)
                    self.assertEqual(prefix, (stream[0], plain_beginning(stream, len(prefix[1]))))
                else:
                    self.check_error(InvalidStream, KEEPS_NOTHING, prefix_in, base, code, stream)
        self.assertEqual(prefix_in(2, comb_code(2, 5000), (0, "", "1")), (0, "1" * 4999))
        self.assertEqual(prefix_in(2, comb_code(2, 5000), (0, "1" * 3000 + "0", "01")), (0, "1" * 3000 + "0"))

    def test_errors_of_prefix_in(self):
        for stream in NO_STREAMS:
            self.check_error(InvalidStream, KEEPS_NOTHING, prefix_in, 2, A, stream)
        for code in NO_CODES:
            self.check_error(InvalidCode, KEEPS_NOTHING, prefix_in, 2, code, None)
        for base in NO_BASES:
            self.check_error(InvalidNumber, base, prefix_in, base, None, None)


class CodesOfSizeTest(Case):

    def test_all_codes_ascending(self):
        for base in (2, 3, 4, 5):
            for roots in (1, 2, 3, 5, 8, 9, 5000):
                for size in range(1, 9):
                    found = list(codes_of_size(base, roots, size))
                    if roots < 10:
                        self.assertEqual(found, plain_codes(base, roots, size))
                    self.assertEqual(len(found), count_codes(base, roots, size))
                    self.assertEqual(found, sorted(set(found)))
        self.assertEqual(len(list(codes_of_size(2, 1, 8))), 429)

    def test_in_part_and_twice_at_once(self):
        every = plain_codes(2, 1, 6)
        one, other = codes_of_size(2, 1, 6), codes_of_size(2, 1, 6)
        told = [next(one), next(one), next(other), next(one), next(other)]
        self.assertEqual(told, [every[0], every[1], every[0], every[2], every[1]])
        self.assertEqual(list(other), every[2:])
        self.assertEqual(list(one), every[3:])

    def test_counts(self):
        catalan = [1]
        for at in range(199):
            catalan.append(sum(catalan[k] * catalan[at - k] for k in range(at + 1)))
        self.assertEqual([count_codes(2, 1, size) for size in range(1, 201)], catalan)
        self.assertEqual([count_codes(3, 1, 200), count_codes(4, 1, 200), count_codes(5, 1, 200)], [0, 0, 0])
        self.assertEqual([count_codes(3, 198, 200), count_codes(5, 4, 8), count_codes(5, 4, 12)], [198, 4, 6 + 4 * 5])
        self.assertEqual([count_codes(2, 200, 200), count_codes(2, 201, 200), count_codes(2, 199, 200)], [1, 0, 199])
        self.assertEqual(count_codes(2, 5000, 200), 0)

    def test_errors(self):
        for size in (0, -1, 9, 200, True, False, None, "3", (3,), 10 ** 59):
            self.check_error(InvalidNumber, size, lambda: next(codes_of_size(2, 1, size)))
        for size in (0, -1, 201, True, False, None, "3", (3,), 10 ** 59):
            self.check_error(InvalidNumber, size, count_codes, 2, 1, size)
        for base in NO_BASES:
            self.check_error(InvalidNumber, base, lambda: next(codes_of_size(base, 0, 0)))
            self.check_error(InvalidNumber, base, count_codes, base, 0, 0)
        for roots in NO_ROOTS:
            self.check_error(InvalidNumber, roots, lambda: next(codes_of_size(2, roots, 0)))
            self.check_error(InvalidNumber, roots, count_codes, 2, roots, 0)


if __name__ == "__main__":
    unittest.main()
