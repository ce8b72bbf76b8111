"""Section 1: its example, and what it promises over the whole program, tried over many books and puzzles."""

import random
import unittest

from cutorall.books import Book
from cutorall.carrying import Carried
from cutorall.cheapest import floor_paper, least_total
from cutorall.doubled import settled
from cutorall.errors import Undefined
from cutorall.floors import floor_holds
from cutorall.prices import Price
from cutorall.puzzles import Puzzle
from cutorall.sides import side, side_holds, side_paper
from cutorall.unlike import unlike_puzzle
from cutorall.writing import written_price
from tests.cases import Case
from tests.samples import (
    any_puzzle, cheapest_of, fillings_that_keep, many_books, many_puzzles, puzzle_over, some_starts, starts_of, total)
from tests.strange import rows
from tests.test_floors import changed, some_paper


def splits_nothing(paper):
    return paper[0] in ("kind", "flow")


class OverviewTest(Case):

    def test_the_example(self):
        like, unlike, rather_yes = Price(2, (0, 3, 3, 0)), Price(2, (1, 0, 0, 1)), Price(1, (2, 0))
        self.assert_same(side(Book([like, rather_yes])), ("cut", ("all yes", "bent")))
        self.assert_same(side(Book([unlike])), ("all",))
        self.assert_same(side(Book([unlike, rather_yes])), ("all",))
        self.assert_same(least_total(Puzzle(Book([unlike]), 3, ((0, (0, 1), 1), (0, (1, 2), 1), (0, (2, 0), 1)))), 1)

    def assert_cut(self, source, book, fixed):
        """The least total of every puzzle is told with a paper that splits nothing, and nothing is carried."""
        self.assert_error(Undefined, {"what": "kind"}, unlike_puzzle, book, fixed=fixed)
        self.assert_error(Undefined, {"what": "kind"}, Carried, Puzzle(book, 1, ()), book, fixed=fixed)
        puzzle = puzzle_over(source, book, source.randint(1, 5), source.randint(0, 6))
        for start in some_starts(puzzle.cell_count, source, 2) if fixed else [()]:
            paper = floor_paper(puzzle, start)
            least = cheapest_of(puzzle, start)[0]
            self.assertTrue(splits_nothing(paper))
            self.assertIs(floor_holds(puzzle, start, least, paper), True)
            self.assertEqual(least_total(puzzle, start), least)

    def assert_all(self, source, book, fixed):
        """The price of unlike is written, and any puzzle carried into the book."""
        puzzle, start, cells, amount, penalty = unlike_puzzle(book, fixed=fixed)
        wanted = Price(2, (amount + penalty, amount, amount, amount + penalty))
        self.assertTrue(written_price(puzzle, cells, start) == wanted and penalty >= 1)
        first = any_puzzle(source, source.randint(0, 3), source.randint(0, 3))
        carried = Carried(first, book, fixed=fixed)
        if not fixed:
            self.assertEqual((start, carried.start), ((), ()))
        for filling in rows(first.cell_count):
            on = carried.on(filling)
            self.assertEqual(carried.read(on), filling)
            self.assertEqual(total(carried.puzzle, on), carried.factor * total(first, filling) + carried.amount)
        if carried.puzzle.cell_count <= 9:
            for filling in fillings_that_keep(carried.puzzle, carried.start):
                least = carried.factor * total(first, carried.read(filling)) + carried.amount
                self.assertGreaterEqual(total(carried.puzzle, filling), least)

    def test_of_every_book_just_one_of_the_two(self):
        source = random.Random(131)
        found = {"cut": 0, "all": 0}
        for book in many_books(210, 132):
            for fixed in (False, True):
                told = side(book, fixed=fixed)
                found[told[0]] += 1
                self.assertIs(side_holds(book, told, side_paper(book, fixed=fixed), fixed=fixed), True)
                (self.assert_cut if told[0] == "cut" else self.assert_all)(source, book, fixed)
        self.assertGreater(min(found.values()), 80)

    def test_of_every_puzzle_a_cut_settles_cells(self):
        source = random.Random(133)
        some = 0
        for puzzle in many_puzzles(60, 4):
            for start in some_starts(puzzle.cell_count, source, 1):
                pairs = settled(puzzle, start)
                some += pairs != ()
                for filling in fillings_that_keep(puzzle, start):
                    better = tuple([dict(pairs).get(cell, value) for cell, value in enumerate(filling)])
                    self.assertTrue(better == filling or total(puzzle, better) < total(puzzle, filling))
        self.assertGreater(some, 30)

    def test_whatever_paper_the_judge_takes(self):
        source = random.Random(134)
        taken = 0
        for puzzle in many_puzzles(60, 3, 4):
            for start in starts_of(puzzle.cell_count)[:5]:
                least = cheapest_of(puzzle, start)[0]
                for _ in range(3):
                    paper = changed(source, some_paper(source, puzzle, start, 2))
                    for m in range(least - 2, least + 3):
                        if floor_holds(puzzle, start, m, paper):
                            taken += 1
                            self.assertLessEqual(m, least)
        self.assertGreater(taken, 50)


if __name__ == "__main__":
    unittest.main()
