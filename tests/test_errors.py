"""Point [3] and "cutorall/errors.py" in the interface."""

import inspect
import unittest

from cutorall import errors
from tests.strange import any_values

NAMES = {
    "InvalidNumber": ["value"],
    "InvalidPrice": ["value"],
    "InvalidBook": ["value"],
    "InvalidPuzzle": ["part", "place"],
    "InvalidStart": ["value"],
    "InvalidFilling": ["value"],
    "InvalidSum": ["value"],
    "InvalidCells": ["value"],
    "InvalidMove": ["value"],
    "InvalidQuestion": ["value"],
    "InvalidText": ["text", "at"],
    "Undefined": ["what"],
    "NothingToUndo": ["word"],
}


class ErrorsTest(unittest.TestCase):

    def each(self):
        return [(getattr(errors, name), parameters) for name, parameters in NAMES.items()]

    def test_price_error_is_a_value_error(self):
        self.assertEqual(errors.PriceError.__bases__, (ValueError,))
        self.assertEqual(errors.PriceError.__module__, "cutorall.errors")

    def test_there_are_thirteen_directly_under_price_error(self):
        self.assertEqual(len(NAMES), 13)
        for error, _ in self.each():
            self.assertEqual(error.__bases__, (errors.PriceError,))
            self.assertEqual(error.__module__, "cutorall.errors")

    def test_no_further_errors(self):
        found = {name for name, _ in inspect.getmembers(errors, inspect.isclass)}
        self.assertEqual(found, set(NAMES) | {"PriceError"})

    def test_parameters_have_the_names(self):
        for error, parameters in self.each():
            self.assertEqual(list(inspect.signature(error).parameters), parameters)

    def test_made_by_place(self):
        for error, parameters in self.each():
            made = error(*range(len(parameters)))
            self.assertEqual([getattr(made, name) for name in parameters], list(range(len(parameters))))

    def test_made_by_name(self):
        for error, parameters in self.each():
            made = error(**{name: [name] for name in parameters})
            self.assertEqual([getattr(made, name) for name in parameters], [[name] for name in parameters])

    def test_made_by_place_and_name(self):
        self.assertEqual(vars(errors.InvalidPuzzle("ties", place=3)), {"part": "ties", "place": 3})
        self.assertEqual(vars(errors.InvalidText("cells", at=5)), {"text": "cells", "at": 5})

    def test_the_arguments_themselves_are_kept(self):
        for error, parameters in self.each():
            for value in any_values():
                made = error(*[value for _ in parameters])
                for name in parameters:
                    self.assertIs(getattr(made, name), value)

    def test_later_changes_are_seen_in_errors(self):
        value = [1]
        made = errors.InvalidNumber(value)
        value.append(2)
        self.assertEqual(made.value, [1, 2])

    def test_nothing_else_is_kept(self):
        for error, parameters in self.each():
            self.assertEqual(sorted(vars(error(*parameters))), sorted(parameters))

    def test_raised_and_caught(self):
        for error, parameters in self.each():
            for caught in (error, errors.PriceError, ValueError):
                with self.assertRaises(caught):
                    raise error(*parameters)

    def test_none_is_caught_as_another(self):
        for error, parameters in self.each():
            for name in NAMES:
                if name != error.__name__:
                    self.assertNotIsInstance(error(*parameters), getattr(errors, name))

    def test_too_few_and_too_many_arguments(self):
        for error, parameters in self.each():
            with self.assertRaises(TypeError):
                error()
            with self.assertRaises(TypeError):
                error(*parameters, "more")


if __name__ == "__main__":
    unittest.main()
