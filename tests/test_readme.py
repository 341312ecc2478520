"""The examples in README.md."""

import doctest
import unittest
from pathlib import Path

README = Path(__file__).parent.parent / "README.md"


class ReadmeTest(unittest.TestCase):

    def test_examples(self):
        # The fences would count as output that is expected.
        text = README.read_text(encoding="utf-8").replace("```", "")
        examples = doctest.DocTestParser().get_doctest(text, {}, "README.md", str(README), 0)
        self.assertEqual(doctest.DocTestRunner().run(examples).failed, 0)
        self.assertGreater(len(examples.examples), 5)


if __name__ == "__main__":
    unittest.main()
