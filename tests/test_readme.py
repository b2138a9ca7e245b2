"""The examples of README.md do what they show."""

import doctest
import pathlib
import unittest

README = pathlib.Path(__file__).resolve().parent.parent / "README.md"


class ReadmeTest(unittest.TestCase):
    def test_examples(self):
        text = README.read_text(encoding="utf-8").replace("```", "")
        test = doctest.DocTestParser().get_doctest(text, {}, "README.md", str(README), 0)
        self.assertTrue(test.examples)
        runner = doctest.DocTestRunner(verbose=False)
        runner.run(test)
        self.assertEqual(runner.failures, 0)


if __name__ == "__main__":
    unittest.main()
