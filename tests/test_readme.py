"""The examples of README.md hold."""

import doctest
import unittest
from pathlib import Path

README = Path(__file__).resolve().parent.parent / "README.md"


class ReadmeTest(unittest.TestCase):
    def test_examples(self):
        # A fence behind an example would be read as a part of what it tells.
        text = README.read_text(encoding="utf-8").replace("```", "")
        examples = doctest.DocTestParser().get_doctest(text, {}, "README.md", str(README), 0)
        self.assertGreater(len(examples.examples), 0)
        found = doctest.DocTestRunner(verbose=False).run(examples)
        self.assertEqual(found.failed, 0)


if __name__ == "__main__":
    unittest.main()
