"""What the tests of several modules ask of errors and of values."""

import unittest

from cutorall.errors import PriceError


def is_plain(value):
    """Whether value is an integer that is no bool."""
    return type(value) is int


def is_plain_throughout(value):
    """Whether value is made of integers that are no bools, strings and tuples only."""
    if type(value) is tuple:
        return all([is_plain_throughout(member) for member in value])
    return is_plain(value) or type(value) is str


class Case(unittest.TestCase):

    def assert_error(self, error, kept, call, *args, **named):
        """The call raises just this error, which keeps just these arguments."""
        with self.assertRaises(PriceError) as caught:
            call(*args, **named)
        self.assertIs(type(caught.exception), error)
        self.assertEqual(vars(caught.exception), kept)
        return caught.exception

    def assert_wrong(self, error, value, call, *args, **named):
        """The call raises this error, which keeps the value itself."""
        made = self.assert_error(error, {"value": value}, call, *args, **named)
        self.assertIs(made.value, value)

    def assert_same(self, found, wanted):
        """found equals wanted and has neither a bool nor a list within."""
        self.assertTrue(is_plain_throughout(found), found)
        self.assertEqual(found, wanted)
