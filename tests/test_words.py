"""[0.1], [0.5], [0.7], [1.1]: bases, words and prefixes."""

import unittest

from prefixtable.base.words import is_base, is_prefix, is_word
from prefixtable.errors import InvalidNumber
from support import OTHER_VALUES, Case, changed, plain_prefix, plain_word

NO_BASES = [-2, 0, 1, 6, 10 ** 59, True, False, None, "2", (2,), [2], {2: 2}, ""]
NO_ROOTS = [-1, 0, 5001, 10 ** 59, True, False, None, "1", (1,), [1], {}]


class WordsTest(Case):

    def test_is_base(self):
        self.assertEqual([value for value in range(-10, 20) if is_base(value)], [2, 3, 4, 5])
        for value in NO_BASES + [value for value in OTHER_VALUES if value not in (2, 3, 4, 5)]:
            self.assertIs(is_base(value), False, value)
        self.assertIs(is_base(2), True)

    def test_is_word(self):
        for base in (2, 3, 4, 5):
            for word in ("", "0", "1", "0101", "10" * 2000, "01234"[:base]):
                self.assertIs(is_word(base, word), True)
            for word in (str(base), "0" + str(base) + "0", "5", "9", "0 1", "-1", "01\n", "O", "0" * 1000 + "5"):
                self.assertIs(is_word(base, word), False)
        for value in OTHER_VALUES:
            for base in (2, 3, 5):
                self.assertIs(is_word(base, value), plain_word(base, value), value)

    def test_is_prefix(self):
        for roots in (1, 2, 5000):
            self.assertIs(is_prefix(2, roots, (roots - 1, "01")), True)
            self.assertIs(is_prefix(2, roots, (roots, "01")), False)
            self.assertIs(is_prefix(2, roots, (-1, "")), False)
        self.assertIs(is_prefix(2, 5000, (4999, "")), True)
        self.assertIs(is_prefix(5, 1, (0, "4" * 1500)), True)
        self.assertIs(is_prefix(4, 1, (0, "4")), False)
        self.assertIs(is_prefix(2, 1, (False, "0")), False)
        self.assertIs(is_prefix(2, 2, (True, "0")), False)
        self.assertIs(is_prefix(2, 1, [0, "0"]), False)

    def test_is_prefix_of_changed_values(self):
        for prefix in ((0, ""), (0, "0"), (3, "0120")):
            for value in changed(prefix):
                for base, roots in ((2, 1), (3, 4), (5, 5000)):
                    self.assertIs(is_prefix(base, roots, value), plain_prefix(base, roots, value), value)

    def test_errors_and_their_order(self):
        for base in NO_BASES:
            self.check_error(InvalidNumber, base, is_word, base, None)
            self.check_error(InvalidNumber, base, is_prefix, base, 0, None)
        for roots in NO_ROOTS:
            self.check_error(InvalidNumber, roots, is_prefix, 2, roots, None)


if __name__ == "__main__":
    unittest.main()
