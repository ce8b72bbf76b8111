"""Point [18], the last sentence of [17] and "cutorall/cheapest.py" in the interface."""

import inspect
import random
import unittest

from cutorall import cheapest
from cutorall.books import Book
from cutorall.cheapest import (
    floor_paper, greatest_cheapest, least_cheapest, least_total, some_cheapest, sure_cells)
from cutorall.doubled import settled
from cutorall.errors import InvalidStart, Undefined
from cutorall.floors import floor_holds
from cutorall.prices import Price
from cutorall.puzzles import Puzzle, is_start
from cutorall.sides import side
from cutorall.sums import is_bent, sum_of
from tests.cases import Case, is_plain
from tests.samples import (
    LIKE, RATHER_YES, SKEW, UNLIKE, bent_puzzle, book_of_kind, cheapest_of, common, many_books, many_puzzles,
    price_of_kind, puzzle_over, some_starts, starts_of, total)
from tests.strange import any_values
from tests.test_floors import VALUES, extreme, right_floor

CALLS = (least_total, some_cheapest, floor_paper, least_cheapest, greatest_cheapest, sure_cells)


def triangle(price=UNLIKE):
    return Puzzle(Book([price]), 3, [(0, (0, 1), 1), (0, (1, 2), 1), (0, (2, 0), 1)])


def right_form(puzzle, start):
    """The form that the floor paper must have, None if any will do."""
    if is_bent(sum_of(puzzle, start)):
        return "flow"
    return "kind" if side(puzzle.book, fixed=start != ())[0] == "cut" else None


def some_puzzles(count, most_cells=5, seed=31):
    """Some puzzles over books of each kind and of none, each with some starts."""
    source = random.Random(seed)
    found = []
    for book in many_books(count, seed):
        puzzle = puzzle_over(source, book, source.randint(0, most_cells), source.randint(0, 5))
        found.extend([(puzzle, start) for start in some_starts(puzzle.cell_count, source, 2)])
    return found


class CheapestCase(Case):

    def assert_cheapest(self, puzzle, start):
        """All that [18] tells of the puzzle and the start."""
        least, fillings = cheapest_of(puzzle, start)
        self.assert_same(least_total(puzzle, start), least)
        filling = some_cheapest(puzzle, start)
        self.assert_same(filling, tuple(filling))
        self.assertIn(filling, fillings)
        self.assert_same(sure_cells(puzzle, start), common(fillings))
        self.assert_paper(puzzle, start, least)
        if is_bent(sum_of(puzzle, start)):
            self.assert_same(least_cheapest(puzzle, start), tuple([min(values) for values in zip(*fillings)]))
            self.assert_same(greatest_cheapest(puzzle, start), tuple([max(values) for values in zip(*fillings)]))
            self.assertIn(least_cheapest(puzzle, start), fillings)
            self.assertIn(greatest_cheapest(puzzle, start), fillings)
        else:
            for call in (least_cheapest, greatest_cheapest):
                self.assert_error(Undefined, {"what": "kind"}, call, puzzle, start)

    def assert_paper(self, puzzle, start, least):
        """The floor paper has the form that is told, holds for the least total and for no more."""
        paper = floor_paper(puzzle, start)
        self.assert_same(paper, tuple(paper))
        form = right_form(puzzle, start)
        if form is not None:
            self.assertEqual(paper[0], form)
        self.assertIs(floor_holds(puzzle, start, least, paper), True)
        self.assertIs(right_floor(puzzle, start, least, paper), True)
        self.assertIs(floor_holds(puzzle, start, least + 1, paper), False)


class OrdinaryTest(CheapestCase):

    def test_interface(self):
        for name in ("least_total", "some_cheapest", "floor_paper", "least_cheapest", "greatest_cheapest", "sure_cells"):
            function = getattr(cheapest, name)
            self.assertEqual(function.__module__, "cutorall.cheapest")
            parameters = inspect.signature(function).parameters
            self.assertEqual(list(parameters), ["puzzle", "start"])
            self.assertEqual(parameters["start"].default, ())

    def test_the_example_of_the_document(self):
        self.assert_same(least_total(triangle()), 1)
        self.assert_same(least_total(puzzle=triangle(), start=((0, 0), (1, 0), (2, 0))), 3)

    def test_a_bent_puzzle(self):
        puzzle = Puzzle(Book([LIKE, RATHER_YES]), 3, [(0, (0, 1), 2), (1, (2,), 1)])
        self.assert_same(least_total(puzzle), 0)
        self.assert_same(least_cheapest(puzzle), (0, 0, 1))
        self.assert_same(greatest_cheapest(puzzle), (1, 1, 1))
        self.assert_same(sure_cells(puzzle), ((2, 1),))
        self.assert_same(least_cheapest(puzzle=puzzle, start=((1, 1),)), (1, 1, 1))
        self.assert_same(greatest_cheapest(puzzle=puzzle, start=((1, 0),)), (0, 0, 1))
        self.assert_same(sure_cells(puzzle=puzzle, start=((1, 0),)), ((0, 0), (1, 0), (2, 1)))
        self.assert_same(some_cheapest(puzzle=puzzle, start=((2, 0), )), some_cheapest(puzzle, ((2, 0),)))
        self.assertEqual(floor_paper(puzzle=puzzle, start=())[0], "flow")

    def test_no_cells_and_no_ties(self):
        for price in (LIKE, UNLIKE, SKEW, RATHER_YES):
            for cell_count in range(4):
                puzzle = Puzzle(Book([price]), cell_count, ())
                for start in starts_of(cell_count):
                    self.assert_cheapest(puzzle, start)
                    self.assert_same(floor_paper(puzzle, start), ("flow", ()))
                    self.assert_same(sure_cells(puzzle, start), start)
                    self.assert_same(least_cheapest(puzzle, start), extreme(puzzle, start, 0))
                    self.assert_same(greatest_cheapest(puzzle, start), extreme(puzzle, start, 1))

    def test_one_price_of_each_kind(self):
        prices = {"all no": Price(3, (0, 1, 1, 3, 1, 3, 3, 2)), "all yes": Price(3, (2, 3, 3, 1, 3, 1, 1, 0)),
                  "rising": Price(2, (0, 1, 1, 3)), "falling": Price(2, (3, 1, 1, 0))}
        for word in prices:
            price = prices[word]
            puzzle = Puzzle(Book([price]), 4, [(0, (0, 1, 2)[:price.size], 2), (0, (3, 2, 1)[:price.size], 1)])
            self.assertFalse(is_bent(sum_of(puzzle)))
            self.assertEqual(floor_paper(puzzle)[0], "kind")
            for start in starts_of(4):
                self.assert_cheapest(puzzle, start)

    def test_ties_that_bend_a_puzzle_over_a_book_that_is_not(self):
        # Three times unlike and once like together are worth 3 in every row.
        puzzle = Puzzle(Book([UNLIKE, LIKE]), 2, [(0, (0, 1), 3), (1, (0, 1), 1)])
        self.assertEqual(side(puzzle.book), ("all",))
        for start in starts_of(2):
            self.assert_cheapest(puzzle, start)
            self.assertEqual(floor_paper(puzzle, start)[0], "flow")

    def test_all_no_with_a_start(self):
        # The book is all no, but not rising: with a start neither word tells anything.
        book = Book([Price(2, (0, 2, 3, 1)), UNLIKE.plus(Price(2, (-1, 1, 1, 2)))])
        self.assertEqual((side(book), side(book, fixed=True)), (("cut", ("all no",)), ("all",)))
        puzzle = Puzzle(book, 4, [(0, (0, 1), 1), (1, (1, 2), 1), (1, (2, 3), 2), (0, (3, 0), 1), (1, (3, 1), 1)])
        for start in starts_of(4):
            self.assert_cheapest(puzzle, start)


class ManyTest(CheapestCase):

    def test_puzzles_over_books_of_each_kind(self):
        forms = {"flow": 0, "kind": 0, None: 0}
        for puzzle, start in some_puzzles(210):
            forms[right_form(puzzle, start)] += 1
            self.assert_cheapest(puzzle, start)
        self.assertGreater(min(forms.values()), 20)

    def test_ordinary_puzzles(self):
        source = random.Random(32)
        for puzzle in many_puzzles(60):
            for start in some_starts(puzzle.cell_count, source, 2):
                self.assert_cheapest(puzzle, start)

    def test_papers_with_splits(self):
        source = random.Random(33)
        forms = set()
        for _ in range(40):
            puzzle = puzzle_over(source, book_of_kind(source, "any", 4), 6, 12)
            for start in some_starts(6, source, 1):
                least = cheapest_of(puzzle, start)[0]
                self.assert_paper(puzzle, start, least)
                forms.add(floor_paper(puzzle, start)[0])
        self.assertLessEqual({"flow", "split"}, forms)

    def test_nine_cells(self):
        source = random.Random(34)
        for _ in range(2):
            puzzle = puzzle_over(source, Book([UNLIKE, SKEW, RATHER_YES]), 9, 60)
            self.assert_cheapest(puzzle, ())
            self.assert_cheapest(puzzle, ((2, 1), (7, 0)))

    def test_of_bent_sums_start_and_what_is_settled_are_sure(self):
        source = random.Random(35)
        some = 0
        for number in range(80):
            puzzle = bent_puzzle(source, number % 6, 6)
            for start in some_starts(puzzle.cell_count, source, 2):
                pairs = settled(puzzle, start)
                some += len(pairs) > 0
                self.assert_same(sure_cells(puzzle, start), tuple(sorted(start + pairs)))
        self.assertGreater(some, 50)

    def test_a_further_tie_by_which_yes_is_cheaper(self):
        source = random.Random(36)
        moved = 0
        for _ in range(150):
            prices = [price_of_kind(source, "bent", source.randint(1, 3)) for _ in range(3)]
            least = source.randint(-4, 4)
            book = Book(prices + [Price(1, (least + source.randint(1, 4), least))])
            puzzle = puzzle_over(source, book, source.randint(1, 6), 6)
            for start in some_starts(puzzle.cell_count, source, 1):
                further = puzzle.with_tie((3, (source.randrange(puzzle.cell_count),), source.randint(1, 2)))
                for call in (least_cheapest, greatest_cheapest):
                    ahead, behind = call(puzzle, start), call(further, start)
                    self.assertFalse([cell for cell in range(puzzle.cell_count) if ahead[cell] > behind[cell]])
                    moved += ahead != behind
        self.assertGreater(moved, 30)


class LargeTest(CheapestCase):

    def assert_large(self, puzzle, start, form):
        """What can be asked of a puzzle of which not all fillings are tried."""
        least = least_total(puzzle, start)
        filling = some_cheapest(puzzle, start)
        self.assertEqual(total(puzzle, filling), least)
        self.assertEqual([filling[cell] for cell, _ in start], [value for _, value in start])
        paper = floor_paper(puzzle, start)
        self.assertEqual(paper[0], form)
        self.assertIs(floor_holds(puzzle, start, least, paper), True)
        self.assertIs(floor_holds(puzzle, start, least + 1, paper), False)
        return filling, least

    def assert_large_sure(self, puzzle, start, filling, least):
        """Each cell that is sure costs more at the opposite value, each other one does not."""
        sure = dict(sure_cells(puzzle, start))
        for cell in range(puzzle.cell_count):
            if cell in dict(start):
                self.assertEqual(sure[cell], dict(start)[cell])
                continue
            other = least_total(puzzle, tuple(sorted(start + ((cell, 1 - filling[cell]),))))
            self.assertEqual(cell in sure, other > least)
            self.assertEqual(sure.get(cell, filling[cell]), filling[cell])

    def test_bent_puzzles_of_thirty_cells(self):
        source = random.Random(37)
        for start in ((), ((0, 1), (13, 0), (29, 1))):
            puzzle = bent_puzzle(source, 30, 100)
            filling, least = self.assert_large(puzzle, start, "flow")
            self.assert_large_sure(puzzle, start, filling, least)
            low, high = least_cheapest(puzzle, start), greatest_cheapest(puzzle, start)
            self.assertEqual((total(puzzle, low), total(puzzle, high)), (least, least))
            agreed = tuple([(cell, values[0]) for cell, values in enumerate(zip(low, high)) if values[0] == values[1]])
            self.assertEqual(agreed, sure_cells(puzzle, start))

    def test_books_on_the_side_of_the_cut(self):
        source = random.Random(38)
        for word in VALUES:
            book = Book([price_of_kind(source, word, size, 9) for size in (1, 2, 3, 3)])
            puzzle = puzzle_over(source, book, 30, 100)
            self.assertFalse(is_bent(sum_of(puzzle)))
            filling, least = self.assert_large(puzzle, (), "kind")
            self.assertEqual(filling, (VALUES[word],) * 30)
            if word in ("rising", "falling"):
                self.assert_large_sure(puzzle, (), filling, least)
                start = tuple([(cell, cell % 2) for cell in range(0, 30, 5)])
                filling, least = self.assert_large(puzzle, start, "kind")
                self.assertEqual(filling, extreme(puzzle, start, VALUES[word]))
                self.assert_large_sure(puzzle, start, filling, least)

    def test_thirty_cells_of_which_nine_are_free(self):
        source = random.Random(39)
        puzzle = puzzle_over(source, Book([UNLIKE, SKEW, RATHER_YES, LIKE]), 30, 100)
        free = [0, 3, 4, 8, 12, 17, 20, 24, 29]
        start = tuple([(cell, cell % 2) for cell in range(30) if cell not in free])
        least = min([total(puzzle, filling) for filling in fillings_over(start, free)])
        self.assertEqual(least_total(puzzle, start), least)
        paper = floor_paper(puzzle, start)
        self.assertIs(floor_holds(puzzle, start, least, paper), True)
        self.assertIs(floor_holds(puzzle, start, least + 1, paper), False)


def fillings_over(start, free):
    """All fillings that keep the start, whose other cells are these."""
    found = []
    for number in range(2 ** len(free)):
        values = dict(start)
        for place, cell in enumerate(free):
            values[cell] = number >> place & 1
        found.append(tuple([values[cell] for cell in sorted(values)]))
    return found


class ErrorTest(CheapestCase):

    def test_any_value_as_start(self):
        for puzzle in (triangle(), triangle(LIKE)):
            for start in (*any_values(), [], [(0, 1)], ([0, 1],), ((1, 0), (0, 0)), ((3, 0),), ((0, 2),), ((0, True),),
                          ((False, 0),), ((0, 0), (0, 0))):
                if is_start(puzzle, start):
                    continue
                for call in CALLS:
                    self.assert_wrong(InvalidStart, start, call, puzzle, start)
                    self.assert_wrong(InvalidStart, start, call, puzzle=puzzle, start=start)

    def test_the_order_of_errors(self):
        for call in (least_cheapest, greatest_cheapest):
            self.assert_error(Undefined, {"what": "kind"}, call, triangle())
            self.assert_wrong(InvalidStart, None, call, triangle(), None)
            self.assertTrue(is_plain(call(triangle(), ((0, 1), (1, 0)))[2]))

    def test_equal_calls_return_equal_results(self):
        for one, other in zip(some_puzzles(40, 4, 41), some_puzzles(40, 4, 41)):
            for call in (least_total, some_cheapest, floor_paper, sure_cells):
                self.assertEqual(call(*one), call(*other))
                self.assertEqual(call(*one), call(*one))
            if is_bent(sum_of(*one)):
                self.assertEqual(least_cheapest(*one), least_cheapest(*other))
                self.assertEqual(greatest_cheapest(*one), greatest_cheapest(*other))

    def test_without_a_start_is_with_the_empty_one(self):
        for puzzle in many_puzzles(20, 4):
            for call in (least_total, some_cheapest, floor_paper, sure_cells):
                self.assertEqual(call(puzzle), call(puzzle, ()))

    def test_the_puzzle_is_not_changed(self):
        puzzle, same = triangle(), triangle()
        for call in (least_total, some_cheapest, floor_paper, sure_cells):
            call(puzzle, ((0, 1),))
        self.assertTrue(puzzle == same)


if __name__ == "__main__":
    unittest.main()
