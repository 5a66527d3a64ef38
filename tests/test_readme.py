"""The examples of the README."""

import doctest
import os
import unittest

README = os.path.join(os.path.dirname(os.path.dirname(os.path.abspath(__file__))), "README.md")


class Readme(unittest.TestCase):
    def test_examples(self):
        with open(README, encoding="utf-8") as file:
            text = file.read().replace("```", "")
        test = doctest.DocTestParser().get_doctest(text, {}, "README", README, 0)
        self.assertTrue(test.examples)
        runner = doctest.DocTestRunner()
        runner.run(test)
        self.assertEqual(runner.failures, 0)


if __name__ == "__main__":
    unittest.main()
