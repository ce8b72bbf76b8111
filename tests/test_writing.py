"""Point [19] and "cutorall/writing.py" in the interface."""

import inspect
import itertools
import random
import unittest

from cutorall import writing
from cutorall.books import Book
from cutorall.errors import InvalidCells, InvalidStart
from cutorall.kinds import is_kind
from cutorall.prices import Price
from cutorall.puzzles import Puzzle, is_start
from cutorall.writing import written_price
from tests.cases import Case, is_plain, is_plain_throughout
from tests.samples import (
    LIKE, RATHER_YES, SKEW, UNLIKE, fillings_that_keep, many_books, many_puzzles, puzzle_over, some_starts, starts_of,
    total)
from tests.strange import AlwaysEqual, any_values, rows


def right_written(puzzle, cells, start):
    """The price of [19], by all fillings."""
    amounts = []
    for row in rows(len(cells)):
        amounts.append(min([total(puzzle, filling) for filling in fillings_that_keep(puzzle, start)
                            if tuple([filling[cell] for cell in cells]) == row]))
    return Price(len(cells), amounts)


def free_cells(puzzle, start):
    return [cell for cell in range(puzzle.cell_count) if cell not in dict(start)]


def all_cells(free):
    """All tuples of one to three unlike cells out of free, in each order."""
    return [cells for count in (1, 2, 3) for cells in itertools.permutations(free, count)]


class WritingCase(Case):

    def assert_written(self, puzzle, cells, start):
        found = written_price(puzzle, cells, start)
        self.assertIs(type(found), Price)
        self.assertTrue(is_plain_throughout(found.amounts) and is_plain(found.size))
        self.assertEqual((found.size, found.amounts), (len(cells), right_written(puzzle, cells, start).amounts))
        return found


class OrdinaryTest(WritingCase):

    def test_interface(self):
        self.assertEqual(written_price.__module__, "cutorall.writing")
        self.assertIs(writing.written_price, written_price)
        parameters = inspect.signature(written_price).parameters
        self.assertEqual(list(parameters), ["puzzle", "cells", "start"])
        self.assertEqual(parameters["start"].default, ())

    def test_a_tie_alone(self):
        puzzle = Puzzle(Book([SKEW, LIKE]), 3, [(0, (0, 1, 2), 1)])
        self.assertEqual(written_price(puzzle, (0, 1, 2)), SKEW)
        self.assertEqual(written_price(puzzle=puzzle, cells=(1,), start=((0, 1), (2, 0))), Price(1, (6, 13)))
        self.assertEqual(written_price(puzzle, (1,)), Price(1, (-9, 0)))
        self.assertEqual(written_price(puzzle, (2, 0)), Price(2, (0, 6, -9, -1)))
        self.assertEqual(written_price(puzzle, (0, 2)), Price(2, (0, -9, 6, -1)))

    def test_a_chain(self):
        puzzle = Puzzle(Book([UNLIKE, RATHER_YES]), 3, [(0, (0, 1), 2), (0, (1, 2), 2)])
        # The cell between the two makes them alike.
        self.assertEqual(written_price(puzzle, (0, 2)), Price(2, (0, 2, 2, 0)))
        self.assertEqual(written_price(puzzle, (0, 2), ((1, 1),)), Price(2, (0, 2, 2, 4)))

    def test_no_ties(self):
        puzzle = Puzzle(Book([SKEW]), 4, ())
        for cells in all_cells(range(4)):
            self.assertEqual(written_price(puzzle, cells), Price(len(cells), (0,) * 2 ** len(cells)))

    def test_one_two_and_three_cells_in_each_order(self):
        source = random.Random(51)
        for puzzle in many_puzzles(14, 4):
            for start in some_starts(puzzle.cell_count, source, 2):
                for cells in all_cells(free_cells(puzzle, start)):
                    self.assert_written(puzzle, cells, start)

    def test_all_starts(self):
        puzzle = Puzzle(Book([SKEW, UNLIKE, RATHER_YES]), 4, [(0, (3, 1, 0), 2), (1, (2, 3), 5), (2, (1,), 3)])
        for start in starts_of(4):
            for cells in all_cells(free_cells(puzzle, start)):
                self.assert_written(puzzle, cells, start)

    def test_nine_cells(self):
        source = random.Random(52)
        puzzle = puzzle_over(source, Book([SKEW, UNLIKE, LIKE]), 9, 40)
        for cells in ((8,), (0, 8), (4, 2, 7)):
            self.assert_written(puzzle, cells, ())

    def test_thirty_cells_of_which_nine_are_free(self):
        source = random.Random(53)
        puzzle = puzzle_over(source, Book([SKEW, UNLIKE, LIKE]), 30, 100)
        free = [1, 4, 6, 9, 13, 18, 22, 27, 29]
        start = tuple([(cell, source.randint(0, 1)) for cell in range(30) if cell not in free])
        found = {row: [] for row in rows(2)}
        for values in rows(9):
            chosen = dict(start) | dict(zip(free, values))
            filling = tuple([chosen[cell] for cell in range(30)])
            found[filling[29], filling[4]].append(total(puzzle, filling))
        self.assertEqual(written_price(puzzle, (29, 4), start), Price(2, [min(found[row]) for row in rows(2)]))


class KindTest(WritingCase):

    def test_what_is_written_is_of_the_kind_of_the_book(self):
        source = random.Random(54)
        tried = {word: 0 for word in ("all no", "all yes", "bent", "rising", "falling")}
        for book in many_books(140, 54):
            puzzle = puzzle_over(source, book, source.randint(1, 5), source.randint(0, 6))
            for start in some_starts(puzzle.cell_count, source, 1):
                words = [word for word in tried if is_kind(book, word) and (start == () or word[:3] != "all")]
                free = free_cells(puzzle, start)
                for count in range(1, min(3, len(free)) + 1):
                    price = self.assert_written(puzzle, tuple(source.sample(free, count)), start)
                    for word in words:
                        tried[word] += 1
                        self.assertTrue(is_kind(Book([price]), word), (word, price.amounts))
        self.assertGreater(min(tried.values()), 40)

    def test_all_no_with_a_start_may_write_another_kind(self):
        price = Price(2, (0, 2, 3, 1))
        puzzle = Puzzle(Book([price]), 2, [(0, (0, 1), 1)])
        self.assertTrue(is_kind(puzzle.book, "all no"))
        self.assertEqual(written_price(puzzle, (1,), ((0, 1),)), Price(1, (3, 1)))


class ErrorTest(WritingCase):

    def test_any_value_as_cells(self):
        puzzle = Puzzle(Book([LIKE]), 4, [(0, (0, 1), 1)])
        strange = [(True,), (False, 1), (0, True), (0, 0), (0, 1, 0), (1, 1), (4,), (-1,), (0, 4), (0, 1, 2, 3), (), [0],
                   [0, 1], ([0],), ((0,),), {0}, "0", (0, "1"), (0, None), (AlwaysEqual(),), (0.0,)]
        for start in ((), ((0, 1),), ((1, 0), (2, 1))):
            right = all_cells(free_cells(puzzle, start))
            for cells in (*any_values(), *strange):
                if type(cells) is tuple and all(map(is_plain, cells)) and cells in right:
                    self.assert_written(puzzle, cells, start)
                else:
                    self.assert_wrong(InvalidCells, cells, written_price, puzzle, cells, start)
                    self.assert_wrong(InvalidCells, cells, written_price, puzzle=puzzle, start=start, cells=cells)

    def test_cells_that_are_fixed(self):
        puzzle = Puzzle(Book([LIKE]), 3, [(0, (0, 1), 1)])
        for start in starts_of(3):
            for cells in all_cells(range(3)):
                if set(cells) & set(dict(start)):
                    self.assert_wrong(InvalidCells, cells, written_price, puzzle, cells, start)

    def test_no_cells(self):
        puzzle = Puzzle(Book([LIKE]), 0, ())
        for cells in ((), (0,)):
            self.assert_wrong(InvalidCells, cells, written_price, puzzle, cells)

    def test_any_value_as_start(self):
        puzzle = Puzzle(Book([LIKE]), 3, [(0, (0, 1), 1)])
        for start in (*any_values(), [], [(0, 1)], ((0, True),), ((1, 0), (0, 0))):
            if not is_start(puzzle, start):
                self.assert_wrong(InvalidStart, start, written_price, puzzle, (2,), start)
                # The start is told of first.
                self.assert_wrong(InvalidStart, start, written_price, puzzle, None, start)
                self.assert_wrong(InvalidStart, start, written_price, puzzle=puzzle, cells=[2], start=start)

    def test_equal_calls_return_equal_results(self):
        for one, other in zip(many_puzzles(20, 4), many_puzzles(20, 4)):
            if one.cell_count:
                self.assertEqual(written_price(one, (0,)), written_price(other, (0,), ()))


if __name__ == "__main__":
    unittest.main()
