"""[0.13]: the error classes, what they are derived from, and what they keep."""

import unittest

from prefixtable import errors

WITH_MESSAGE = ["InvalidPrefix", "InvalidStream", "InvalidCode", "InvalidTable", "InvalidRegion", "InvalidGraph",
                "InvalidMove", "InvalidOperation", "InvalidEdit", "ParseError"]
WITH_VALUE = [("InvalidNumber", "value", IndexError), ("UnknownName", "name", KeyError),
              ("NotTaken", "prefix", LookupError), ("TooMany", "limit", OverflowError),
              ("NothingToUndo", "count", RuntimeError)]


class ErrorsTest(unittest.TestCase):

    def test_base_of_errors_with_message(self):
        self.assertEqual(errors.PrefixError.__bases__, (ValueError,))
        self.assertEqual(str(errors.PrefixError("told")), "told")

    def test_errors_with_message(self):
        for name in WITH_MESSAGE:
            error = getattr(errors, name)
            self.assertEqual(error.__bases__, (errors.PrefixError,), name)
            self.assertEqual(str(error("what went wrong")), "what went wrong")
            self.assertEqual(error.__module__, "prefixtable.errors")

    def test_errors_with_value(self):
        for name, attribute, parent in WITH_VALUE:
            error = getattr(errors, name)
            self.assertEqual(error.__bases__, (parent,), name)
            self.assertFalse(issubclass(error, errors.PrefixError))
            for value in (7, True, None, (0, "0"), [], {"a": ()}, "x" * 300, 10 ** 59):
                self.assertIs(getattr(error(value), attribute), value)
                self.assertIs(getattr(error(**{attribute: value}), attribute), value)
                self.assertIsInstance(str(error(value)), str)

    def test_no_error_is_derived_from_another_one(self):
        kinds = [getattr(errors, name) for name in WITH_MESSAGE + [row[0] for row in WITH_VALUE]]
        for one in kinds:
            self.assertEqual([other for other in kinds if issubclass(one, other)], [one])


if __name__ == "__main__":
    unittest.main()
