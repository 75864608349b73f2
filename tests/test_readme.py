"""What README.md shows of the program is so."""

import doctest
import pathlib
import unittest

README = pathlib.Path(__file__).resolve().parent.parent / "README.md"


class Readme(unittest.TestCase):
    def test_its_examples(self):
        done = doctest.testfile(str(README), module_relative=False, encoding="utf-8")
        self.assertEqual(done.failed, 0)
        self.assertGreater(done.attempted, 10)


if __name__ == "__main__":
    unittest.main()
