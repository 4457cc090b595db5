"""What README.md shows is what the program does."""

import doctest
import os
import unittest

README = os.path.join(os.path.dirname(os.path.dirname(os.path.abspath(__file__))), "README.md")


class Readme(unittest.TestCase):
    def test_each_example(self):
        told = doctest.testfile(README, module_relative=False)
        self.assertGreater(told.attempted, 0)
        self.assertEqual(told.failed, 0)

    def test_it_says_how_to_run_the_tests(self):
        with open(README, encoding="utf-8") as source:
            text = source.read()
        self.assertIn("python3 -m unittest", text)
        self.assertIn(".ci/run", text)


if __name__ == "__main__":
    unittest.main()
