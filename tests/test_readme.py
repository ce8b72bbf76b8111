"""The examples of README.md do what they show."""

import doctest
import unittest


class ReadmeTest(unittest.TestCase):

    def test_examples(self):
        result = doctest.testfile("../README.md")
        self.assertEqual(result.failed, 0)
        self.assertGreater(result.attempted, 0)


if __name__ == "__main__":
    unittest.main()
