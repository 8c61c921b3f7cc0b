"""The examples of the README."""

import doctest
import pathlib
import unittest


class ReadmeTest(unittest.TestCase):
    def test_examples(self):
        path = pathlib.Path(__file__).resolve().parent.parent / "README.md"
        found = doctest.testfile(str(path), module_relative=False)
        self.assertGreater(found.attempted, 5)
        self.assertEqual(found.failed, 0)


if __name__ == "__main__":
    unittest.main()
