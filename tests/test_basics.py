"""What point [1] calls integers, values and rows, and what [2] says of sequences."""

import unittest

from cutorall.basics import is_integer, is_number_below, is_row, is_sequence, is_size, is_value, row_number, rows_of
from tests.strange import any_values, rows


class BasicsTest(unittest.TestCase):

    def right_ones(self, test):
        return [value for value in any_values() if test(value)]

    def test_integers(self):
        self.assertEqual(self.right_ones(is_integer), [0, 1, 2, 3, 4, -1, 10 ** 50, -10 ** 50])
        self.assertFalse(is_integer(True))
        self.assertFalse(is_integer(False))

    def test_values_and_sizes(self):
        self.assertEqual(self.right_ones(is_value), [0, 1])
        self.assertEqual(self.right_ones(is_size), [1, 2, 3])
        for value in (True, False):
            self.assertFalse(is_value(value))
            self.assertFalse(is_size(value))

    def test_numbers_below(self):
        self.assertEqual(self.right_ones(lambda value: is_number_below(value, 3)), [0, 1, 2])
        self.assertEqual(self.right_ones(lambda value: is_number_below(value, 0)), [])

    def test_sequences(self):
        self.assertTrue(all(isinstance(value, (list, tuple)) for value in self.right_ones(is_sequence)))
        self.assertTrue(is_sequence(()))
        self.assertTrue(is_sequence([]))
        self.assertFalse(is_sequence("ab"))
        self.assertFalse(is_sequence({0: 1}))

    def test_rows_are_tuples_of_values(self):
        self.assertEqual(self.right_ones(lambda value: is_row(value, 0)), [()])
        self.assertEqual(self.right_ones(lambda value: is_row(value, 1)), [(0,), (1,)])
        self.assertEqual(self.right_ones(lambda value: is_row(value, 2)), [(0, 1)])
        self.assertEqual(self.right_ones(lambda value: is_row(value, 3)), [(0, 1, 0)])
        self.assertFalse(is_row((True,), 1))
        self.assertFalse(is_row([0], 1))

    def test_rows_ascend_and_have_their_numbers(self):
        self.assertEqual(rows_of(0), ((),))
        self.assertEqual(row_number(()), 0)
        for size in range(1, 6):
            self.assertEqual(list(rows_of(size)), rows(size))
            self.assertEqual(list(rows_of(size)), sorted(rows_of(size)))
            self.assertEqual([row_number(row) for row in rows_of(size)], list(range(2 ** size)))


if __name__ == "__main__":
    unittest.main()
