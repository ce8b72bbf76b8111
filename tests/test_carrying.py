"""Point [21] and "cutorall/carrying.py" in the interface."""

import inspect
import random
import unittest

from cutorall import carrying
from cutorall.books import Book
from cutorall.carrying import Carried
from cutorall.errors import InvalidBook, InvalidFilling, InvalidPuzzle, Undefined
from cutorall.prices import Price
from cutorall.puzzles import Puzzle, is_start, total_of
from cutorall.sides import side
from cutorall.texts import read_puzzle, write_puzzle
from tests.cases import Case, is_plain
from tests.samples import (
    LIKE, LIKE_THREE, RATHER_YES, SKEW, UNLIKE, any_price, any_puzzle, cheapest_of, fillings_that_keep, many_books,
    many_puzzles, puzzle_over, total)
from tests.strange import any_values, rows
from tests.test_kinds import ONLY

NAMES = ("first", "puzzle", "start", "cells", "against", "factor", "amount")
MIRRORED_THREE = Price(3, (4, 1, 2, 4, 4, 2, 1, 4))


def is_mirrored(book):
    """Whether each price costs like amounts at each row and its opposite."""
    return all([price.amounts == price.amounts[::-1] for price in book.prices])


def right_reading(carried, filling):
    """What the filling is read as."""
    values = [filling[cell] for cell in carried.cells]
    if carried.against is None:
        return tuple(values)
    return tuple([int(value != filling[carried.against]) for value in values])


def small_puzzles(source, count):
    """Some puzzles of few cells and ties, with amounts below and above 0."""
    found = [Puzzle(Book([SKEW]), 0, ()), Puzzle(Book([LIKE]), 2, ()), Puzzle(Book([SKEW]), 3, [(0, (2, 0, 1), 2)])]
    for _ in range(count):
        book = Book([any_price(source, source.randint(1, 3), -9, 9) for _ in range(2)])
        found.append(puzzle_over(source, book, source.randint(0, 3), source.randint(0, 3)))
    return found


def some_fillings(source, carried):
    """All fillings that keep the start if these are few, otherwise some."""
    count = carried.puzzle.cell_count
    if count <= 10:
        return fillings_that_keep(carried.puzzle, carried.start)
    found = [carried.on(row) for row in rows(carried.first.cell_count)]
    for row in list(found):
        # Near what costs the least, and anywhere.
        cell = source.randrange(count)
        found.append(row[:cell] + (1 - row[cell],) + row[cell + 1:])
        found.append(tuple([source.randint(0, 1) for _ in range(count)]))
    return [tuple([dict(carried.start).get(cell, value) for cell, value in enumerate(row)]) for row in found]


class CarriedCase(Case):

    def assert_attributes(self, carried, puzzle, book, fixed):
        self.assertIs(carried.first, puzzle)
        self.assertIs(type(carried.puzzle), Puzzle)
        self.assertTrue(carried.puzzle.book == book)
        self.assertTrue(is_start(carried.puzzle, carried.start))
        if not fixed:
            self.assertEqual(carried.start, ())
        self.assert_same(carried.cells, tuple(carried.cells))
        self.assertEqual(len(carried.cells), puzzle.cell_count)
        own = list(carried.cells)
        if fixed or not is_mirrored(book):
            self.assertIsNone(carried.against)
        else:
            self.assertTrue(is_plain(carried.against))
            own.append(carried.against)
        self.assertEqual(len(set(own)), len(own))
        self.assertFalse(set(own) & set(dict(carried.start)))
        self.assertFalse([cell for cell in own if not 0 <= cell < carried.puzzle.cell_count])
        self.assertTrue(is_plain(carried.factor) and is_plain(carried.amount) and carried.factor >= 1)

    def assert_carried(self, source, puzzle, book, fixed):
        """All that [21] tells; Undefined if the book is of a kind."""
        if side(book, fixed=fixed) != ("all",):
            self.assert_error(Undefined, {"what": "kind"}, Carried, puzzle, book, fixed=fixed)
            return None
        carried = Carried(puzzle, book, fixed=fixed)
        self.assert_attributes(carried, puzzle, book, fixed)
        for filling in rows(puzzle.cell_count):
            on = carried.on(filling)
            self.assert_same(on, tuple(on))
            self.assertEqual(len(on), carried.puzzle.cell_count)
            self.assertEqual([on[cell] for cell, _ in carried.start], [value for _, value in carried.start])
            self.assert_same(carried.read(on), filling)
            wanted = carried.factor * total(puzzle, filling) + carried.amount
            self.assertEqual(total(carried.puzzle, on), wanted)
        for filling in some_fillings(source, carried):
            reading = carried.read(filling)
            self.assert_same(reading, right_reading(carried, filling))
            self.assertGreaterEqual(total(carried.puzzle, filling), carried.factor * total(puzzle, reading) + carried.amount)
        return carried

    def assert_cheapest(self, carried):
        """What [21] concludes: the cheapest fillings are read as cheapest ones, at the cost that is told."""
        least, _ = cheapest_of(carried.first, ())
        told, fillings = cheapest_of(carried.puzzle, carried.start)
        self.assertEqual(told, carried.factor * least + carried.amount)
        for filling in fillings:
            self.assertEqual(total(carried.first, carried.read(filling)), least)
        for filling in fillings_that_keep(carried.puzzle, carried.start):
            above = total(carried.first, carried.read(filling)) - least
            self.assertGreaterEqual(total(carried.puzzle, filling) - told, carried.factor * above)


class CarriedTest(CarriedCase):

    def test_interface(self):
        self.assertEqual(Carried.__module__, "cutorall.carrying")
        self.assertIs(carrying.Carried, Carried)
        parameters = inspect.signature(Carried).parameters
        self.assertEqual(list(parameters), ["puzzle", "book", "fixed"])
        self.assertIs(parameters["fixed"].default, False)
        self.assertEqual(parameters["fixed"].kind, inspect.Parameter.KEYWORD_ONLY)
        for name in ("read", "on"):
            self.assertIn(name, vars(Carried))
            self.assertEqual(list(inspect.signature(getattr(Carried, name)).parameters), ["self", "filling"])
        with self.assertRaises(TypeError):
            Carried(Puzzle(Book([LIKE]), 0, ()), Book([UNLIKE]), True)
        carried = Carried(puzzle=Puzzle(Book([LIKE]), 1, ()), book=Book([UNLIKE]), fixed=True)
        self.assertEqual(carried.read(filling=carried.on(filling=(1,))), (1,))
        for name in NAMES:
            self.assertTrue(hasattr(carried, name))
        with self.assertRaises(TypeError):
            iter(carried)

    def test_a_like_pair_carried_into_unlike(self):
        source = random.Random(71)
        puzzle = Puzzle(Book([LIKE, RATHER_YES]), 2, [(0, (0, 1), 2), (1, (1,), 1)])
        carried = self.assert_carried(source, puzzle, Book([UNLIKE]), False)
        self.assertIsNotNone(carried.against)
        self.assert_cheapest(carried)
        # Yes and no exchanged throughout, it is read alike at the same cost.
        for filling in rows(2):
            other = tuple([1 - value for value in carried.on(filling)])
            self.assertEqual(carried.read(other), filling)
            self.assertEqual(total_of(carried.puzzle, other), total_of(carried.puzzle, carried.on(filling)))

    def test_the_default_is_not_fixed(self):
        puzzle = Puzzle(Book([SKEW]), 3, [(0, (0, 1, 2), 1)])
        for book in (Book([UNLIKE]), Book([SKEW])):
            one, other = Carried(puzzle, book), Carried(puzzle, book, fixed=False)
            self.assertEqual([getattr(one, name) for name in NAMES[1:]], [getattr(other, name) for name in NAMES[1:]])
            self.assertEqual(one.start, ())

    def test_no_cells_and_no_ties(self):
        source = random.Random(72)
        for book in (Book([UNLIKE]), Book([SKEW]), Book([MIRRORED_THREE]), Book([UNLIKE, RATHER_YES])):
            for cell_count in range(4):
                for price in (LIKE, SKEW):
                    for fixed in (False, True):
                        carried = self.assert_carried(source, Puzzle(Book([price]), cell_count, ()), book, fixed)
                        if cell_count < 2:
                            self.assert_cheapest(carried)

    def test_mirrored_books_fixed_and_not(self):
        source = random.Random(73)
        other = Price(3, (0, 7, -1, 5, 5, -1, 7, 0))
        for book in (Book([UNLIKE]), Book([MIRRORED_THREE]), Book([LIKE, UNLIKE]), Book([other, LIKE_THREE, LIKE]),
                     Book([Price(1, (3, 3)), UNLIKE])):
            self.assertTrue(is_mirrored(book))
            for puzzle in small_puzzles(source, 6):
                self.assertIsNotNone(self.assert_carried(source, puzzle, book, False).against)
                self.assertIsNone(self.assert_carried(source, puzzle, book, True).against)

    def test_books_that_are_not_mirrored_by_one_price(self):
        source = random.Random(74)
        for further in (RATHER_YES, Price(1, (0, 1)), Price(2, (0, 1, 0, 0)), SKEW, Price(2, (0, 9, -9, 0))):
            for book in (Book([UNLIKE, further]), Book([further, MIRRORED_THREE, LIKE])):
                for puzzle in small_puzzles(source, 4):
                    for fixed in (False, True):
                        carried = self.assert_carried(source, puzzle, book, fixed)
                        self.assertIsNone(carried.against)

    def test_each_single_row_and_tie(self):
        source = random.Random(75)
        book = Book([Price(3, (0, 3, 1, 4, 1, 5, 9, -2))])
        for place in range(8):
            for amount in (-1, 1):
                price = Price(3, [amount * (place == number) for number in range(8)])
                for cells in ((0, 1, 2), (2, 0, 1), (0, 0, 1), (1, 1, 1)):
                    puzzle = Puzzle(Book([price]), 3, [(0, cells, 3)])
                    for over in (Book([UNLIKE]), book):
                        self.assert_carried(source, puzzle, over, False)
                    self.assert_carried(source, puzzle, book, True)

    def test_books_of_each_kind_and_of_none(self):
        source = random.Random(76)
        found = {True: 0, False: 0}
        puzzles = small_puzzles(source, 30)
        for book in many_books(160, 77):
            for fixed in (False, True):
                found[self.assert_carried(source, source.choice(puzzles), book, fixed) is not None] += 1
        self.assertGreater(min(found.values()), 60)

    def test_the_cheapest_fillings(self):
        source = random.Random(78)
        tried = 0
        for book in many_books(140, 79):
            for fixed in (False, True):
                if side(book, fixed=fixed) == ("all",):
                    puzzle = any_puzzle(source, source.randint(1, 3), source.randint(0, 3))
                    carried = Carried(puzzle, book, fixed=fixed)
                    if carried.puzzle.cell_count <= 8:
                        tried += 1
                        self.assert_cheapest(carried)
        self.assertGreater(tried, 30)

    def test_as_large_as_may_be(self):
        source = random.Random(80)
        first = Book([any_price(source, size, -999, 999) for size in (3, 3, 3, 3, 2, 1)])
        big = [Price(2, (999999, -999999, 999998, -999998)), Price(3, (5, 1, -999999, 7, 8, 999999, 1, 5))]
        for book in (Book([UNLIKE]), Book([SKEW]), Book(big), Book([Price(2, (1, 0, 0, 1)), big[1], LIKE])):
            for fixed in (False, True):
                ties = [(number, tuple(source.sample(range(6), first.prices[number].size)), 999) for number in range(6)]
                carried = self.assert_carried(source, Puzzle(first, 6, ties), book, fixed)
                self.assertTrue(read_puzzle(write_puzzle(carried.puzzle)) == carried.puzzle)

    def test_puzzles_over_the_book_itself(self):
        source = random.Random(81)
        for book in (Book([UNLIKE, LIKE]), Book([SKEW, RATHER_YES])):
            for puzzle in [puzzle_over(source, book, 3, 2) for _ in range(5)]:
                self.assert_carried(source, puzzle, book, False)
                again = Carried(puzzle, book)
                self.assert_carried(source, Carried(Puzzle(book, 1, ()), book).puzzle, book, True)
                self.assertTrue(again.first == puzzle)


class ErrorTest(CarriedCase):

    def test_books_of_the_kinds(self):
        puzzle = Puzzle(Book([UNLIKE]), 2, [(0, (0, 1), 1)])
        for book in [Book([ONLY[word][0]]) for word in ONLY] + [Book([LIKE]), Book([RATHER_YES])]:
            for fixed in (False, True):
                self.assert_carried(random.Random(82), puzzle, book, fixed)
        self.assert_error(Undefined, {"what": "kind"}, Carried, puzzle, Book([LIKE]))
        # All no is cheapest, so nothing is carried with no cell fixed.
        book = Book([Price(2, (0, 2, 3, 1)), Price(2, (0, 1, 1, 5))])
        self.assert_error(Undefined, {"what": "kind"}, Carried, puzzle, book)
        self.assertEqual(len(Carried(puzzle, book, fixed=True).cells), 2)

    def test_any_value_as_puzzle_and_book(self):
        puzzle, book = Puzzle(Book([LIKE]), 1, ()), Book([UNLIKE])
        for value in (*any_values(), Carried(puzzle, book)):
            for fixed in (False, True):
                if type(value) is not Puzzle:
                    for other in (book, None, value, Book([LIKE])):
                        self.assert_error(InvalidPuzzle, {"part": "puzzle", "place": 0}, Carried, value, other, fixed=fixed)
                if type(value) is not Book:
                    self.assert_wrong(InvalidBook, value, Carried, puzzle, value, fixed=fixed)
                    self.assert_wrong(InvalidBook, value, Carried, puzzle=puzzle, book=value)

    def test_any_value_as_filling(self):
        puzzle = Puzzle(Book([LIKE]), 2, [(0, (0, 1), 1)])
        for book in (Book([UNLIKE]), Book([SKEW])):
            for fixed in (False, True):
                carried = Carried(puzzle, book, fixed=fixed)
                right = {row: fillings_that_keep(carried.puzzle, carried.start) for row in ["read"]} | {"on": rows(2)}
                one = carried.on((0, 1))
                strange = [list(one), one + (0,), one[:-1], tuple(map(bool, one)), (2,) + one[1:], (None,) + one[1:],
                           [0, 1], (0, True), (False, 1), (1.0, 0), "01"]
                for value in (*any_values(), *strange):
                    for name in ("read", "on"):
                        if type(value) is tuple and all(map(is_plain, value)) and value in right[name]:
                            continue
                        self.assert_wrong(InvalidFilling, value, getattr(carried, name), value)
                        self.assert_wrong(InvalidFilling, value, getattr(carried, name), filling=value)

    def test_fillings_that_do_not_keep_the_start(self):
        puzzle = Puzzle(Book([LIKE]), 1, [(0, (0, 0), 1)])
        carried = Carried(puzzle, Book([SKEW]), fixed=True)
        self.assertNotEqual(carried.start, ())
        kept = fillings_that_keep(carried.puzzle, carried.start)
        for filling in rows(carried.puzzle.cell_count):
            if filling in kept:
                self.assert_same(carried.read(filling), right_reading(carried, filling))
            else:
                self.assert_wrong(InvalidFilling, filling, carried.read, filling)

    def test_equal_things_have_equal_attributes_and_answers(self):
        for number, (one, other) in enumerate(zip(many_puzzles(24, 3, 3), many_puzzles(24, 3, 3))):
            for fixed in (False, True):
                books = [Book([[UNLIKE, SKEW, MIRRORED_THREE][number % 3]]) for _ in range(2)]
                carried = [Carried(one, books[0], fixed=fixed), Carried(other, books[1], fixed=fixed)]
                for name in NAMES:
                    self.assertEqual(getattr(carried[0], name), getattr(carried[1], name))
                for filling in rows(one.cell_count):
                    self.assertEqual(carried[0].on(filling), carried[1].on(filling))
                    self.assertEqual(carried[0].on(filling), carried[0].on(filling))
                    self.assertEqual(carried[0].read(carried[0].on(filling)), carried[1].read(carried[1].on(filling)))


if __name__ == "__main__":
    unittest.main()
