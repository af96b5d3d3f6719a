"""The examples of README.md give what they tell."""

import doctest
import unittest
from pathlib import Path

README = Path(__file__).resolve().parent.parent / "README.md"


class ReadmeTest(unittest.TestCase):

    def test_examples(self):
        # A fence behind an example would be read as a part of what it should print.
        text = README.read_text(encoding="utf-8").replace("```", "")
        examples = doctest.DocTestParser().get_doctest(text, {}, "README.md", str(README), 0)
        found = doctest.DocTestRunner().run(examples)
        self.assertEqual(found.failed, 0)
        self.assertGreater(found.attempted, 0)
