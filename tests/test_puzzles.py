"""Points [7] and [8] and "cutorall/puzzles.py" in the interface."""

import inspect
import itertools
import random

import unittest

from cutorall import puzzles
from cutorall.books import Book
from cutorall.errors import InvalidFilling, InvalidNumber, InvalidPuzzle, InvalidStart
from cutorall.prices import Price
from cutorall.puzzles import Puzzle, all_cheapest, is_filling, is_start, total_of
from tests.cases import Case, is_plain
from tests.samples import (
    LIKE, LIKE_THREE, RATHER_YES, SKEW, UNLIKE, fillings_that_keep, many_puzzles, some_starts, starts_of, total)
from tests.strange import AlwaysEqual, any_values, rows

BOOK = Book([LIKE, RATHER_YES, SKEW])
TIES = ((0, (0, 1), 1), (1, (2,), 3), (2, (2, 0, 1), 2))


def ordinary():
    return Puzzle(BOOK, 3, TIES)


def is_right_tie(tie, book, cell_count):
    """Whether it is a tie, told as [7] tells it."""
    if type(tie) is not tuple or len(tie) != 3 or not is_plain(tie[0]) or not 0 <= tie[0] < len(book.prices):
        return False
    if type(tie[1]) is not tuple or len(tie[1]) != book.prices[tie[0]].size:
        return False
    if not all([is_plain(cell) and 0 <= cell < cell_count for cell in tie[1]]):
        return False
    return is_plain(tie[2]) and tie[2] > 0


def is_right_start(start, cell_count):
    """Whether it is a start, told as [8] tells it."""
    if type(start) is not tuple:
        return False
    for pair in start:
        if type(pair) is not tuple or len(pair) != 2 or not is_plain(pair[0]) or not is_plain(pair[1]):
            return False
        if not 0 <= pair[0] < cell_count or pair[1] not in (0, 1):
            return False
    cells = [cell for cell, _ in start]
    return cells == sorted(set(cells))


class PuzzleCase(Case):

    def assert_invalid(self, part, place, call, *args, **named):
        made = self.assert_error(InvalidPuzzle, {"part": part, "place": place}, call, *args, **named)
        self.assertTrue(is_plain(made.place))

    def assert_puzzle(self, puzzle, book, cell_count, ties):
        self.assertIs(type(puzzle), Puzzle)
        self.assertEqual(puzzle.book, book)
        self.assert_same(puzzle.cell_count, cell_count)
        self.assert_same(puzzle.ties, tuple(ties))


class MakingTest(PuzzleCase):

    def test_interface(self):
        methods = {"with_tie": ["self", "tie"], "without": ["self", "t"]}
        self.assertEqual(Puzzle.__module__, "cutorall.puzzles")
        self.assertEqual(list(inspect.signature(Puzzle).parameters), ["book", "cell_count", "ties"])
        self.assertIn("__eq__", vars(Puzzle))
        for name, parameters in methods.items():
            self.assertEqual(list(inspect.signature(vars(Puzzle)[name]).parameters), parameters)
        functions = {"is_filling": ["puzzle", "value"], "total_of": ["puzzle", "filling"],
                     "is_start": ["puzzle", "value"], "all_cheapest": ["puzzle", "start"]}
        for name, parameters in functions.items():
            function = getattr(puzzles, name)
            self.assertEqual(function.__module__, "cutorall.puzzles")
            self.assertEqual(list(inspect.signature(function).parameters), parameters)
        self.assertEqual(inspect.signature(all_cheapest).parameters["start"].default, ())

    def test_by_list_and_tuple_place_and_name(self):
        made = [Puzzle(BOOK, 3, TIES), Puzzle(BOOK, 3, list(TIES)), Puzzle(book=BOOK, cell_count=3, ties=TIES),
                Puzzle(BOOK, ties=list(TIES), cell_count=3)]
        for puzzle in made:
            self.assert_puzzle(puzzle, BOOK, 3, TIES)
            self.assertLessEqual({"book", "cell_count", "ties"}, set(vars(puzzle)))

    def test_without_cells_and_without_ties(self):
        for ties in ((), []):
            self.assert_puzzle(Puzzle(BOOK, 0, ties), BOOK, 0, ())
            self.assert_puzzle(Puzzle(BOOK, 5, ties), BOOK, 5, ())
        self.assert_invalid("ties", 0, Puzzle, BOOK, 0, [(1, (0,), 1)])

    def test_a_cell_more_than_once_and_the_same_tie_more_than_once(self):
        ties = ((0, (1, 1), 1), (2, (0, 1, 0), 1), (2, (0, 0, 0), 4), (0, (1, 1), 1))
        self.assert_puzzle(Puzzle(BOOK, 2, ties), BOOK, 2, ties)

    def test_thirty_cells_and_a_hundred_ties_and_somewhat_beyond(self):
        for cells, count in ((30, 100), (33, 120)):
            ties = [(2, (cells - 1, k % cells, (7 * k) % cells), 999999) for k in range(count)]
            self.assert_puzzle(Puzzle(BOOK, cells, ties), BOOK, cells, ties)

    def test_any_value_as_book(self):
        for book in [value for value in any_values() if not isinstance(value, Book)] + [AlwaysEqual()]:
            self.assert_invalid("book", 0, Puzzle, book, 3, ())
            self.assert_invalid("book", 0, Puzzle, book, -1, None)

    def test_any_value_as_cell_count(self):
        for count in any_values():
            if is_plain(count) and count >= 0:
                self.assert_puzzle(Puzzle(BOOK, count, ()), BOOK, count, ())
            else:
                self.assert_invalid("cells", 0, Puzzle, BOOK, count, ())
                self.assert_invalid("cells", 0, Puzzle, BOOK, count, 5)

    def test_any_value_as_ties(self):
        for ties in any_values():
            if not isinstance(ties, (list, tuple)):
                self.assert_invalid("ties", 0, Puzzle, BOOK, 3, ties)
                continue
            wrong = [t for t, tie in enumerate(ties) if not is_right_tie(tie, BOOK, 3)]
            if wrong:
                self.assert_invalid("ties", wrong[0], Puzzle, BOOK, 3, ties)
            else:
                self.assert_puzzle(Puzzle(BOOK, 3, ties), BOOK, 3, ties)

    def test_any_value_as_a_tie_and_as_a_part_of_one(self):
        for value in any_values() + [5, 6, (0, 2), (2, 1, 0), (0, 3), (0, 1, True)]:
            for tie in (value, (value, (0, 1), 1), (0, value, 1), (0, (0, 1), value), (0, (0, value), 1),
                        (0, (value, 1), 1), (2, (0, 1, value), 1), (1, (value,), 2)):
                if is_right_tie(tie, BOOK, 3):
                    self.assert_puzzle(Puzzle(BOOK, 3, (tie,)), BOOK, 3, (tie,))
                    self.assert_puzzle(ordinary().with_tie(tie), BOOK, 3, TIES + (tie,))
                else:
                    self.assert_invalid("ties", 0, Puzzle, BOOK, 3, (tie,))
                    self.assert_invalid("ties", 3, Puzzle, BOOK, 3, list(TIES) + [tie, None])
                    self.assert_invalid("ties", 3, ordinary().with_tie, tie)
                    self.assert_invalid("ties", 0, Puzzle(BOOK, 3, ()).with_tie, tie=tie)

    def test_wrong_ties(self):
        wrong = [
            (3, (0, 1), 1), (-1, (0, 1), 1), (True, (0,), 1), (False, (0, 1), 1), (0, (0,), 1), (0, (0, 1, 2), 1),
            (0, (0, 3), 1), (0, (-1, 0), 1), (0, (True, 0), 1), (0, [0, 1], 1), (0, (0, 1), 0), (0, (0, 1), -1),
            (0, (0, 1), True), (0, (0, 1)), (0, (0, 1), 1, 1), [0, (0, 1), 1], (), None, "tie", 0, (0, 0, 1),
            (1, 0, 1), (LIKE, (0, 1), 1), (0, "01", 1), (0, ((0,), 1), 1), (None, (0, 1), 1), (0, None, 1),
        ]
        for tie in wrong:
            for t in range(4):
                ties = list(TIES)
                ties.insert(t, tie)
                self.assert_invalid("ties", t, Puzzle, BOOK, 3, ties)
                self.assert_invalid("ties", t, Puzzle, BOOK, 3, tuple(ties + [None]))

    def test_ties_that_are_no_sequence(self):
        for ties in (None, True, 0, "", "tie", {}, BOOK, ordinary(), {0: TIES[0]}):
            self.assert_invalid("ties", 0, Puzzle, BOOK, 3, ties)

    def test_the_prices_of_the_book_are_numbered_from_nought(self):
        for count in range(1, 7):
            book = Book([Price(1, (0, k)) for k in range(count)])
            for price in range(-1, 8):
                if 0 <= price < count:
                    Puzzle(book, 1, [(price, (0,), 1)])
                else:
                    self.assert_invalid("ties", 0, Puzzle, book, 1, [(price, (0,), 1)])

    def test_the_order_of_errors(self):
        self.assert_invalid("book", 0, Puzzle, None, None, None)
        self.assert_invalid("cells", 0, Puzzle, BOOK, None, None)
        self.assert_invalid("ties", 0, Puzzle, BOOK, 0, None)
        self.assert_invalid("ties", 1, Puzzle, BOOK, 3, [TIES[0], None, 5])

    def test_a_list_changed_later_changes_nothing(self):
        ties = list(TIES)
        puzzle = Puzzle(BOOK, 3, ties)
        ties[0] = (1, (0,), 1)
        ties.append((1, (0,), 1))
        self.assert_puzzle(puzzle, BOOK, 3, TIES)
        self.assertEqual(total_of(puzzle, (0, 0, 0)), 0 + 6 + 8)

    def test_arguments_are_not_changed(self):
        ties = list(TIES) + [None]
        self.assert_invalid("ties", 3, Puzzle, BOOK, 3, ties)
        self.assertEqual(ties, list(TIES) + [None])


class EqualTest(PuzzleCase):

    def test_equal_if_all_three_are(self):
        anew = Puzzle(Book((Price(2, [0, 3, 3, 0]), RATHER_YES, SKEW)), 3, list(TIES))
        self.assertTrue(ordinary() == anew)
        self.assertFalse(ordinary() != anew)
        others = [
            Puzzle(BOOK, 4, TIES), Puzzle(BOOK, 3, TIES[:2]), Puzzle(BOOK, 3, TIES[::-1]), Puzzle(BOOK, 3, ()),
            Puzzle(Book([LIKE, RATHER_YES, SKEW, SKEW]), 3, TIES), Puzzle(Book([UNLIKE, RATHER_YES, SKEW]), 3, TIES),
            Puzzle(BOOK, 3, TIES[:2] + ((2, (2, 0, 1), 1),)), Puzzle(BOOK, 3, TIES + TIES[:1]),
            Puzzle(BOOK, 3, TIES[:2] + ((2, (2, 1, 0), 2),)),
        ]
        for other in others:
            self.assertIs(ordinary() == other, False)
            self.assertIs(ordinary() != other, True)

    def test_equal_to_nothing_of_another_kind(self):
        for other in any_values() + [BOOK, (BOOK, 3, TIES), AlwaysEqual()]:
            self.assertIs(ordinary() == other, False)
            self.assertIs(ordinary() != other, True)
        self.assertIs(BOOK == ordinary(), False)

    def test_not_iterable(self):
        with self.assertRaises(TypeError):
            iter(ordinary())


class WithTest(PuzzleCase):

    def test_behind_the_others(self):
        tie = (1, (0,), 1)
        self.assert_puzzle(ordinary().with_tie(tie), BOOK, 3, TIES + (tie,))
        self.assert_puzzle(ordinary().with_tie(tie=TIES[0]), BOOK, 3, TIES + TIES[:1])
        self.assert_puzzle(Puzzle(BOOK, 1, ()).with_tie(tie), BOOK, 1, (tie,))

    def test_cells_of_the_puzzle_only(self):
        self.assert_invalid("ties", 0, Puzzle(BOOK, 1, ()).with_tie, (1, (1,), 1))
        self.assert_invalid("ties", 0, Puzzle(BOOK, 0, ()).with_tie, (1, (0,), 1))

    def test_the_puzzle_stays(self):
        puzzle = ordinary()
        puzzle.with_tie((1, (0,), 1))
        puzzle.without(1)
        self.assert_invalid("ties", 3, puzzle.with_tie, None)
        self.assert_wrong(InvalidNumber, 3, puzzle.without, 3)
        self.assert_puzzle(puzzle, BOOK, 3, TIES)
        self.assertEqual(sorted(vars(puzzle)), ["book", "cell_count", "ties"])


class WithoutTest(PuzzleCase):

    def test_later_ties_have_one_number_less(self):
        for t in range(3):
            rest = [tie for k, tie in enumerate(TIES) if k != t]
            self.assert_puzzle(ordinary().without(t), BOOK, 3, rest)
            self.assert_puzzle(ordinary().without(t=t), BOOK, 3, rest)

    def test_of_like_ties_only_one_is_taken(self):
        self.assert_puzzle(Puzzle(BOOK, 2, TIES[:1] * 2).without(0), BOOK, 2, TIES[:1])

    def test_any_value_as_number(self):
        for t in any_values():
            if is_plain(t) and 0 <= t < 3:
                self.assertEqual(len(ordinary().without(t).ties), 2)
            else:
                self.assert_wrong(InvalidNumber, t, ordinary().without, t)

    def test_no_tie_to_take(self):
        for t in (0, -1, True, False, None):
            self.assert_wrong(InvalidNumber, t, Puzzle(BOOK, 2, ()).without, t)


class FillingTest(PuzzleCase):

    def test_any_value(self):
        for cells in range(5):
            puzzle = Puzzle(BOOK, cells, ())
            for value in any_values() + rows(cells):
                right = type(value) is tuple and len(value) == cells
                right = right and all([is_plain(member) and member in (0, 1) for member in value])
                self.assertIs(is_filling(puzzle, value), right)
                self.assertIs(is_filling(puzzle=puzzle, value=value), right)

    def test_bools_and_lists_are_none(self):
        for value in ((True, 0, 1), (0, 1, False), [0, 0, 1], (0, 1), (0, 1, 0, 0), (0, 1, 2), (0, 1, -1), "010", None):
            self.assertIs(is_filling(ordinary(), value), False)
            self.assert_wrong(InvalidFilling, value, total_of, ordinary(), value)
            self.assert_wrong(InvalidFilling, value, total_of, puzzle=ordinary(), filling=value)

    def test_the_one_filling_without_cells(self):
        puzzle = Puzzle(BOOK, 0, ())
        self.assertIs(is_filling(puzzle, ()), True)
        self.assertIs(is_filling(puzzle, []), False)
        self.assert_same(total_of(puzzle, ()), 0)


class TotalTest(PuzzleCase):

    def test_ordinary(self):
        # LIKE at 0, 1; three times RATHER_YES at 2; twice SKEW at the values of 2, 0, 1.
        for filling in rows(3):
            one, two, three = filling
            told = 3 * (one != two) + 3 * 2 * (1 - three) + 2 * SKEW.amounts[4 * three + 2 * one + two]
            self.assert_same(total_of(ordinary(), filling), told)

    def test_times_and_cells_more_than_once(self):
        puzzle = Puzzle(Book([SKEW]), 2, [(0, (1, 0, 1), 1), (0, (1, 1, 1), 10)])
        self.assert_same([total_of(puzzle, row) for row in rows(2)][0], 4 + 40)
        self.assertEqual([total_of(puzzle, row) for row in rows(2)], [4 + 40, -1 + 20, 0 + 40, 2 + 20])

    def test_many_puzzles(self):
        for puzzle in many_puzzles(40):
            for filling in rows(puzzle.cell_count):
                self.assert_same(total_of(puzzle, filling), total(puzzle, filling))

    def test_any_value_as_filling(self):
        for filling in any_values():
            for cells in (0, 1, 2, 3):
                puzzle = Puzzle(BOOK, cells, ())
                if is_filling(puzzle, filling):
                    self.assertEqual(total_of(puzzle, filling), 0)
                else:
                    self.assert_wrong(InvalidFilling, filling, total_of, puzzle, filling)


class StartTest(PuzzleCase):

    def test_all_starts_are(self):
        for cells in range(4):
            for start in starts_of(cells):
                self.assertIs(is_start(Puzzle(BOOK, cells, ()), start), True)
                self.assertIs(is_start(puzzle=Puzzle(BOOK, cells, ()), value=start), True)

    def test_any_value(self):
        for cells in range(4):
            puzzle = Puzzle(BOOK, cells, ())
            for value in any_values():
                self.assertIs(is_start(puzzle, value), is_right_start(value, cells))

    def test_any_value_as_a_pair_and_a_part_of_one(self):
        for value in any_values():
            for start in ((value,), ((0, 1), value), ((value, 1),), ((1, value),), ((0, 0), (value, 1)), [value]):
                self.assertIs(is_start(ordinary(), start), is_right_start(start, 3))

    def test_wrong_starts(self):
        wrong = [
            ((1, 0), (0, 0)), ((0, 0), (0, 0)), ((0, 0), (0, 1)), ((0, 1), (2, 1), (1, 0)), ((3, 0),), ((-1, 0),),
            ((0, 2),), ((0, -1),), ((0, True),), ((False, 0),), ((True, 0), (2, 0)), ((0,),), ((0, 0, 0),), ((),),
            [(0, 0)], ([0, 0],), [], None, 0, "", True, (0, 0), (0,), ((0, None),), ((None, 0),), (((0,), 0),),
        ]
        for start in wrong:
            self.assertIs(is_start(ordinary(), start), False)
            self.assert_wrong(InvalidStart, start, all_cheapest, ordinary(), start)
            self.assert_wrong(InvalidStart, start, all_cheapest, puzzle=ordinary(), start=start)


class AllCheapestTest(PuzzleCase):

    def test_ordinary(self):
        triangle = Puzzle(Book([UNLIKE]), 3, [(0, (0, 1), 1), (0, (1, 2), 1), (0, (2, 0), 1)])
        self.assert_same(all_cheapest(triangle), tuple(rows(3)[1:7]))
        self.assert_same(all_cheapest(triangle, ((0, 0),)), ((0, 0, 1), (0, 1, 0), (0, 1, 1)))
        self.assert_same(all_cheapest(triangle, start=((0, 1), (1, 1))), ((1, 1, 0),))

    def test_without_ties_all_are(self):
        for cells in range(4):
            self.assert_same(all_cheapest(Puzzle(BOOK, cells, ())), tuple(rows(cells)))
            self.assert_same(all_cheapest(Puzzle(BOOK, cells, ()), ()), tuple(rows(cells)))

    def test_many_puzzles_and_starts(self):
        source = random.Random(3)
        for puzzle in many_puzzles(60):
            for start in some_starts(puzzle.cell_count, source, 4):
                kept = fillings_that_keep(puzzle, start)
                least = min([total(puzzle, filling) for filling in kept])
                wanted = tuple([filling for filling in kept if total(puzzle, filling) == least])
                self.assert_same(all_cheapest(puzzle, start), wanted)

    def test_a_start_that_fixes_every_cell(self):
        for filling in rows(3):
            start = tuple(enumerate(filling))
            self.assert_same(all_cheapest(ordinary(), start), (filling,))

    def test_nine_cells_that_are_not_fixed_out_of_thirty(self):
        ties = [(0, (k, k + 1), 2) for k in range(29)] + [(1, (29,), 1)] * 71
        puzzle = Puzzle(BOOK, 30, ties)
        start = tuple([(cell, 0) for cell in range(21)])
        wanted = tuple([(0,) * (30 - ones) + (1,) * ones for ones in range(1, 10)])
        self.assert_same(all_cheapest(puzzle, start), wanted)
        fixed_at_one = tuple([(cell, 1) for cell in range(1, 22)])
        self.assert_same(all_cheapest(puzzle, fixed_at_one), ((1,) * 30,))

    def test_any_value_as_start(self):
        for start in any_values():
            for cells in range(3):
                puzzle = Puzzle(BOOK, cells, ())
                if is_right_start(start, cells):
                    self.assertEqual(all_cheapest(puzzle, start), tuple(fillings_that_keep(puzzle, start)))
                else:
                    self.assert_wrong(InvalidStart, start, all_cheapest, puzzle, start)


class CallsTest(PuzzleCase):

    def test_equal_calls_return_equal_results(self):
        for one, other in zip(many_puzzles(10), many_puzzles(10)):
            self.assertEqual(one, other)
            self.assertEqual(all_cheapest(one), all_cheapest(other))
            self.assertEqual(all_cheapest(one), all_cheapest(one))

    def test_calls_change_no_puzzle(self):
        puzzle = ordinary()
        for call in (all_cheapest, lambda it: is_filling(it, None), lambda it: is_start(it, [])):
            call(puzzle)
        for start, filling in itertools.product((None, [(0, 0)]), (None, [0, 0, 0])):
            self.assert_wrong(InvalidStart, start, all_cheapest, puzzle, start)
            self.assert_wrong(InvalidFilling, filling, total_of, puzzle, filling)
        self.assert_puzzle(puzzle, BOOK, 3, TIES)

    def test_a_book_of_six_prices_of_all_sizes(self):
        book = Book([LIKE, RATHER_YES, SKEW, UNLIKE, LIKE_THREE, RATHER_YES])
        puzzle = Puzzle(book, 3, [(5, (1,), 2), (4, (0, 1, 2), 1), (3, (0, 2), 1)])
        self.assertEqual([total_of(puzzle, row) for row in rows(3)], [5, 9, 6, 5, 9, 10, 5, 1])


if __name__ == "__main__":
    unittest.main()
