"""[0.8], [1.1] to [1.3] and the functions of stage 1 about streams."""

import unittest

from prefixtable.base.streams import (
    beginning, begins_with, common_beginning, digits, is_stream, make_stream, precedes, replaced, tail_shift)
from prefixtable.errors import InvalidNumber, InvalidOperation, InvalidPrefix, InvalidStream
from support import (
    KEEPS_NOTHING, Case, all_streams, all_words, changed, plain_beginning, plain_prefix, plain_stream)
from test_words import NO_BASES, NO_ROOTS

X = (0, "01", "10")
Y = (0, "0", "1")
NO_STREAMS = [None, 3, "01", (), (0, "0"), (0, "0", ""), (0, "1", "01"), (0, "", "0101"), (0, "2", "0"), (0, "", "2"),
              (5000, "", "0"), (-1, "", "0"), (True, "", "0"), [0, "", "0"], (0, "", "0", "0"), (0, None, "0"),
              (0, "", ("0",)), {0: ""}, (0, "0", "0"), (0, "10", "00")]
NO_PREFIXES = [None, 3, "01", (), (0,), (0, "2"), (5000, ""), (-1, ""), (False, ""), [0, ""], (0, "0", "1"), (0, 0)]


def plain_tails(stream, behind):
    """Return as many digits behind a place as tell this tail from all other ones of short streams."""
    return plain_beginning(stream, behind + 60)[behind:]


class ExamplesTest(Case):

    def test_printed_examples(self):
        self.assertEqual([make_stream(2, 0, "0110", "1010"), make_stream(3, 1, "", "2121"),
                          is_stream(2, 1, (0, "1", "01"))], [(0, "01", "10"), (1, "", "21"), False])
        self.assertEqual([beginning(2, X, 5), [digit for index, digit in zip(range(4), digits(2, X))]],
                         ["01101", [0, 1, 1, 0]])
        self.assertEqual([begins_with(2, X, (0, "011")), begins_with(2, X, (1, "")),
                          replaced(2, X, (0, "011"), (1, ""))], [True, False, (1, "", "01")])
        self.assertEqual([common_beginning(2, X, Y), common_beginning(2, X, (1, "", "0")), precedes(2, X, Y),
                          precedes(2, X, X)], [(0, "011"), None, True, False])
        self.assertEqual([tail_shift(2, X, (3, "", "01")), tail_shift(2, X, Y), tail_shift(2, Y, Y)],
                         [(2, 1), None, (0, 0)])


class NormalFormTest(Case):

    def test_is_stream(self):
        for stream in ((0, "", "0"), (0, "01", "10"), (0, "0" * 1500, "1"), (0, "", "0" * 1500 + "1")):
            self.assertIs(is_stream(2, 1, stream), True)
        self.assertIs(is_stream(2, 5000, (4999, "", "0")), True)
        self.assertIs(is_stream(2, 4999, (4999, "", "0")), False)
        self.assertIs(is_stream(3, 1, (0, "", "2")), True)
        for value in NO_STREAMS:
            self.assertIs(is_stream(2, 5000, value), False, value)

    def test_is_stream_of_changed_values(self):
        for stream in ((0, "", "0"), (1, "01", "10"), (2, "2", "0121")):
            for value in changed(stream):
                for base, roots in ((2, 1), (3, 3), (5, 5000)):
                    self.assertIs(is_stream(base, roots, value), plain_stream(base, roots, value), value)

    def test_same_digits_have_one_normal_form(self):
        forms = {}
        for head in all_words(2, 4):
            for period in all_words(2, 4)[1:]:
                form = make_stream(2, 7, head, period)
                self.assertTrue(plain_stream(2, 5000, form))
                self.assertEqual(plain_beginning(form, 30), plain_beginning((7, head, period), 30))
                self.assertEqual(form, forms.setdefault(plain_beginning(form, 30), form))
        self.assertEqual(len(set(forms.values())), len(forms))

    def test_long_words(self):
        self.assertEqual(make_stream(2, 0, "1" * 3000, "1" * 1001), (0, "", "1"))
        self.assertEqual(make_stream(2, 0, "10" * 700 + "1", "01" * 600), (0, "", "10"))
        self.assertEqual(make_stream(5, 0, "3" + "42" * 900, "1342" + "42" * 2), (0, "3" + "42" * 897, "42424213"))

    def test_normal_forms_are_kept(self):
        for stream in all_streams(3, (0, 4999), 2, 3):
            self.assertEqual(make_stream(3, *stream), stream)

    def test_errors_of_make_stream(self):
        for base in NO_BASES:
            self.check_error(InvalidNumber, base, make_stream, base, None, None, None)
        for root, head, period in [(-1, "", "0"), (5000, "", "0"), (True, "", "0"), (None, "", "0"), ("0", "", "0"),
                                   (0, None, "0"), (0, "2", "0"), (0, ["0"], "0"), (0, "", ""), (0, "", "2"),
                                   (0, "", None), (0, "", ("0",)), (0, 0, "0"), (0, "", 0), ([], {}, ())]:
            self.check_error(InvalidStream, KEEPS_NOTHING, make_stream, 2, root, head, period)
        for root in (0, 4999):
            self.assertEqual(make_stream(2, root, "", "0"), (root, "", "0"))

    def test_errors_of_is_stream(self):
        for base in NO_BASES:
            self.check_error(InvalidNumber, base, is_stream, base, 0, None)
        for roots in NO_ROOTS:
            self.check_error(InvalidNumber, roots, is_stream, 2, roots, None)


class DigitsTest(Case):

    def test_digits(self):
        for stream in all_streams(3, (0,), 2, 2):
            told = [digit for _, digit in zip(range(12), digits(3, stream))]
            self.assertEqual(told, [int(digit) for digit in plain_beginning(stream, 12)])
            self.assertTrue(all(digit.__class__ is int for digit in told))

    def test_digits_begin_anew_at_each_call(self):
        one = digits(2, X)
        self.assertEqual([next(one), next(one), next(one)], [0, 1, 1])
        other = digits(2, X)
        self.assertEqual([next(other), next(one), next(other), next(one)], [0, 0, 1, 1])

    def test_digits_errors(self):
        for base in NO_BASES:
            self.check_error(InvalidNumber, base, lambda: next(digits(base, None)))
        for stream in NO_STREAMS:
            self.check_error(InvalidStream, KEEPS_NOTHING, lambda: next(digits(2, stream)))

    def test_beginning(self):
        for stream in ((0, "", "0"), (0, "011", "10"), (3, "1", "0011100")):
            for count in list(range(20)) + [1999, 2000]:
                self.assertEqual(beginning(2, stream, count), plain_beginning(stream, count))
        self.assertEqual(beginning(2, (0, "01" * 1500 + "0", "0" * 999 + "1"), 2000), "01" * 1000)

    def test_errors_of_beginning(self):
        for count in (-1, 2001, 10 ** 59, True, False, None, "3", (3,), [3]):
            self.check_error(InvalidNumber, count, beginning, 2, X, count)
            self.check_error(InvalidStream, KEEPS_NOTHING, beginning, 2, (0, "", ""), count)
            self.check_error(InvalidNumber, 6, beginning, 6, (0, "", ""), count)


class ReplacedTest(Case):

    def test_begins_with(self):
        for stream in all_streams(2, (0, 1), 2, 2):
            for word in all_words(2, 4) + [plain_beginning(stream, 1500)]:
                self.assertIs(begins_with(2, stream, (0, word)),
                              stream[0] == 0 and plain_beginning(stream, len(word)) == word)

    def test_replaced_forth_and_back(self):
        for stream in all_streams(2, (0, 5), 2, 3):
            for count in (0, 1, 2, 3, 4, 7, 1200):
                old = (stream[0], plain_beginning(stream, count))
                for new in ((0, ""), (5, "1"), (4999, "0110"), (stream[0], "01" * 600)):
                    image = replaced(2, stream, old, new)
                    self.assertTrue(plain_stream(2, 5000, image))
                    self.assertEqual(image[0], new[0])
                    self.assertEqual(plain_beginning(image, len(new[1]) + 20),
                                     new[1] + plain_beginning(stream, count + 20)[count:])
                    self.assertEqual(replaced(2, image, new, old), stream)

    def test_errors(self):
        for old in ((1, "01"), (0, "1"), (0, "0111"), (1, ""), (0, "011010" * 300 + "00")):
            self.check_error(InvalidOperation, KEEPS_NOTHING, replaced, 2, X, old, (0, ""))
            self.check_error(InvalidPrefix, KEEPS_NOTHING, replaced, 2, X, old, (0, "2"))
        for prefix in NO_PREFIXES:
            self.check_error(InvalidPrefix, KEEPS_NOTHING, begins_with, 2, X, prefix)
            self.check_error(InvalidPrefix, KEEPS_NOTHING, replaced, 2, X, prefix, (0, ""))
            self.check_error(InvalidPrefix, KEEPS_NOTHING, replaced, 2, X, (0, ""), prefix)
        for stream in NO_STREAMS:
            self.check_error(InvalidStream, KEEPS_NOTHING, begins_with, 2, stream, None)
            self.check_error(InvalidStream, KEEPS_NOTHING, replaced, 2, stream, None, None)
        for base in NO_BASES:
            self.check_error(InvalidNumber, base, begins_with, base, None, None)
            self.check_error(InvalidNumber, base, replaced, base, None, None, None)

    def test_every_changed_prefix_is_judged(self):
        for value in changed((0, "0")):
            if plain_prefix(2, 5000, value):
                self.assertIs(begins_with(2, X, value), value[0] == 0 and plain_beginning(X, len(value[1])) == value[1])
            else:
                self.check_error(InvalidPrefix, KEEPS_NOTHING, begins_with, 2, X, value)


class TwoStreamsTest(Case):

    def test_common_beginning_and_precedes(self):
        streams = all_streams(2, (0, 1), 2, 3)
        for first in streams:
            for second in streams:
                one, other = plain_beginning(first, 20), plain_beginning(second, 20)
                self.assertIs(precedes(2, first, second), (first[0], one) < (second[0], other))
                if first == second:
                    self.check_error(InvalidOperation, KEEPS_NOTHING, common_beginning, 2, first, second)
                elif first[0] != second[0]:
                    self.assertIsNone(common_beginning(2, first, second))
                else:
                    count = [at for at in range(20) if one[at] != other[at]][0]
                    self.assertEqual(common_beginning(2, first, second), (first[0], one[:count]))

    def test_streams_that_differ_late(self):
        # By [1.2] the first different digit is among the first h + p + q ones; here it is one of the last of them.
        for first, second, count in [((0, "", "0" * 50 + "1"), (0, "", "0"), 50),
                                     ((2, "", "01" * 40 + "0"), (2, "", "01"), 81),
                                     ((0, "1" * 1200, "0"), (0, "", "1"), 1200),
                                     ((0, "011", "10010"), (0, "011", "10010100"), 3 + 10)]:
            told = plain_beginning(first, count + 1)
            self.assertEqual(common_beginning(2, first, second), (first[0], told[:count]))
            self.assertEqual(common_beginning(2, second, first), (first[0], told[:count]))
            self.assertEqual(precedes(2, first, second), told[count] == "0")
            self.assertEqual(precedes(2, second, first), told[count] == "1")

    def test_root_counts_before_digits(self):
        self.assertIs(precedes(2, (0, "", "1"), (1, "", "0")), True)
        self.assertIs(precedes(2, (1, "", "0"), (0, "", "1")), False)

    def test_tail_shift(self):
        streams = all_streams(2, (0,), 3, 3) + [(2, "011", "10"), (3, "10", "0011")]
        for first in streams:
            for second in streams:
                pairs = [(m, n) for m in range(8) for n in range(12)
                         if plain_tails(first, m) == plain_tails(second, n)]
                self.assertEqual(tail_shift(2, first, second), min(pairs) if pairs else None, (first, second))

    def test_tail_shift_of_turned_periods(self):
        period = "0011101"
        for turn in range(7):
            turned = period[turn:] + period[:turn]
            self.assertEqual(tail_shift(2, (0, "", turned), (1, "", period)), (0, turn))
            self.assertEqual(tail_shift(2, (1, "", period), (0, "", turned)), (0, (7 - turn) % 7))
        self.assertIsNone(tail_shift(2, (0, "", period), (0, "", period[::-1])))
        self.assertIsNone(tail_shift(2, (0, "", "01"), (0, "", "0101" + "1")))
        self.assertEqual(tail_shift(2, (0, "1" * 1500 + "0", "1"), (9, "0" * 1500, "1")), (1500, 1499))

    def test_errors(self):
        for call in (common_beginning, precedes, tail_shift):
            for base in NO_BASES:
                self.check_error(InvalidNumber, base, call, base, None, None)
            for value in NO_STREAMS:
                self.check_error(InvalidStream, KEEPS_NOTHING, call, 2, value, X)
                self.check_error(InvalidStream, KEEPS_NOTHING, call, 2, X, value)
                self.check_error(InvalidStream, KEEPS_NOTHING, call, 2, value, value)


if __name__ == "__main__":
    unittest.main()
