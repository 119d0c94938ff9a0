"""The examples that README.md prints."""

import doctest
import pathlib
import unittest

README = pathlib.Path(__file__).resolve().parent.parent / "README.md"


class ReadmeTest(unittest.TestCase):

    def test_examples(self):
        text = README.read_text(encoding="utf-8").replace("```", "")
        examples = doctest.DocTestParser().get_doctest(text, {}, "README.md", str(README), 0)
        told = doctest.DocTestRunner(verbose=False).run(examples)
        self.assertEqual(told.failed, 0)
        self.assertGreater(told.attempted, 40)


if __name__ == "__main__":
    unittest.main()
