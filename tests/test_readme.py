"""The examples in README.md."""

import doctest
import pathlib
import unittest

README = pathlib.Path(__file__).resolve().parent.parent / "README.md"


class ReadmeTest(unittest.TestCase):

    def test_examples(self):
        # The marks around the examples would count as what the last example shows.
        text = "\n".join("" if row.startswith("```") else row for row in README.read_text(encoding="utf-8").split("\n"))
        found = doctest.DocTestParser().get_doctest(text, {}, "README.md", "README.md", 0)
        self.assertGreater(len(found.examples), 20)
        self.assertEqual(doctest.DocTestRunner(verbose=False).run(found).failed, 0)


if __name__ == "__main__":
    unittest.main()
