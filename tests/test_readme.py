"""The examples of README.md."""

import doctest
import pathlib
import unittest

README = pathlib.Path(__file__).resolve().parent.parent / "README.md"


class Readme(unittest.TestCase):
    def test_examples(self):
        # A fence would be taken for a line of output.
        text = README.read_text(encoding="utf-8").replace("```", "")
        examples = doctest.DocTestParser().get_doctest(text, {}, "README.md", str(README), 0)
        result = doctest.DocTestRunner().run(examples)
        self.assertGreater(result.attempted, 10)
        self.assertEqual(result.failed, 0)


if __name__ == "__main__":
    unittest.main()
