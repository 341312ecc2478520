"""The examples in README.md and those of the document."""

import doctest
import unittest
from pathlib import Path

README = Path(__file__).parent.parent / "README.md"
EXAMPLES = Path(__file__).parent / "examples.txt"


class ExamplesTest(unittest.TestCase):

    def assert_right(self, path, least):
        # The fences would count as output that is expected.
        text = path.read_text(encoding="utf-8").replace("```", "")
        examples = doctest.DocTestParser().get_doctest(text, {}, path.name, str(path), 0)
        self.assertEqual(doctest.DocTestRunner().run(examples).failed, 0)
        self.assertGreaterEqual(len(examples.examples), least)

    def test_readme(self):
        self.assert_right(README, 40)

    def test_document(self):
        self.assert_right(EXAMPLES, 45)


if __name__ == "__main__":
    unittest.main()
