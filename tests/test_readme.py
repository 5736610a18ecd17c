"""The examples in README.md."""

import doctest
import pathlib
import unittest

README = pathlib.Path(__file__).resolve().parent.parent / "README.md"


class TheExamples(unittest.TestCase):
    def test_each_example_shows_what_the_program_does(self):
        found = doctest.testfile(str(README), module_relative=False)
        self.assertEqual(found.failed, 0)
        self.assertGreater(found.attempted, 0)


if __name__ == "__main__":
    unittest.main()
