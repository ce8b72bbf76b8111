"""Points [16] and [17] and "cutorall/doubled.py" in the interface."""

import inspect
import random
import unittest

from cutorall import doubled
from cutorall.books import Book
from cutorall.cheapest import sure_cells
from cutorall.doubled import doubled_sum, paired_sum, settled
from cutorall.errors import InvalidStart, InvalidSum
from cutorall.networks import network_of
from cutorall.prices import Price
from cutorall.puzzles import Puzzle
from tests.cases import Case
from tests.samples import (
    LIKE, RATHER_YES, SKEW, UNLIKE, any_puzzle, any_sum, bent_puzzle, bent_sum, cheapest_of, common,
    fillings_that_keep, is_bent_by_rows, least_cuts, many_puzzles, some_starts, starts_of, sum_of_numbers, total, worth)
from tests.strange import any_values, rows
from tests.test_sums import is_right_sum, right_sum_of

TRIPLE = Price(3, (0, 0, 0, 0, 0, 0, 0, 1))


def over(price, cells, times=1, cell_count=3):
    """The puzzle of this one tie."""
    return Puzzle(Book([price]), cell_count, [(0, cells, times)])


def right_paired(told, letter_count):
    """The pair of [16], by what stands for each member."""
    numbers, helper = {}, letter_count

    def put(letters, number):
        numbers[letters] = numbers.get(letters, 0) + number

    for letters, number in told:
        if len(letters) < 3:
            put(letters, number)
            continue
        x, y, z = letters
        if number < 0:
            put((x, helper), number)
            put((y, helper), number)
            put((z, helper), number)
            put((helper,), -2 * number)
        else:
            put((x, y), number)
            put((x, z), number)
            put((y, z), number)
            put((x, helper), -number)
            put((y, helper), -number)
            put((z, helper), -number)
            put((helper,), number)
        helper += 1
    return sum_of_numbers(numbers), helper


def right_doubled(told, letter_count):
    """The pair of [16] for a sum, by what stands for each member of its paired sum."""
    paired, count = right_paired(told, letter_count)
    numbers = {}

    def put(letters, number):
        numbers[letters] = numbers.get(letters, 0) + number

    for letters, number in paired:
        firsts, seconds = [2 * v for v in letters], [2 * v + 1 for v in letters]
        if len(letters) == 0:
            put((), 2 * number)
        elif len(letters) == 1:
            put((firsts[0],), number)
            put((seconds[0],), -number)
            put((), number)
        elif number < 0:
            put((firsts[0], firsts[1]), number)
            put((seconds[0], seconds[1]), number)
            put((seconds[0],), -number)
            put((seconds[1],), -number)
            put((), number)
        else:
            put((firsts[0],), number)
            put((firsts[1],), number)
            put((firsts[0], seconds[1]), -number)
            put((seconds[0], firsts[1]), -number)
    return sum_of_numbers(numbers), 2 * count


def put_into(filling, pairs):
    """The filling with these values put in."""
    found = list(filling)
    for cell, value in pairs:
        found[cell] = value
    return tuple(found)


class PairedTest(Case):

    def test_interface(self):
        functions = {"paired_sum": ["told", "letter_count"], "doubled_sum": ["puzzle", "start"],
                     "settled": ["puzzle", "start"]}
        for name, parameters in functions.items():
            function = getattr(doubled, name)
            self.assertEqual(function.__module__, "cutorall.doubled")
            self.assertEqual(list(inspect.signature(function).parameters), parameters)
        for function in (doubled_sum, settled):
            self.assertEqual(inspect.signature(function).parameters["start"].default, ())

    def test_the_empty_sum_and_sums_without_triples(self):
        for count in range(4):
            self.assert_same(paired_sum((), count), ((), count))
        told = (((), 5), ((0,), 1), ((0, 1), 3), ((1,), -1))
        self.assert_same(paired_sum(told, 2), (told, 2))
        self.assert_same(paired_sum(told=told, letter_count=7), (told, 7))

    def test_a_triple_below_nought(self):
        paired = (((0, 3), -2), ((1, 3), -2), ((2, 3), -2), ((3,), 4))
        self.assert_same(paired_sum((((0, 1, 2), -2),), 3), (paired, 4))
        paired = (((0, 7), -1), ((2, 7), -1), ((5, 7), -1), ((7,), 2))
        self.assert_same(paired_sum((((0, 2, 5), -1),), 7), (paired, 8))

    def test_a_triple_above_nought(self):
        paired = (((0, 1), 2), ((0, 2), 2), ((0, 3), -2), ((1, 2), 2), ((1, 3), -2), ((2, 3), -2), ((3,), 2))
        self.assert_same(paired_sum((((0, 1, 2), 2),), 3), (paired, 4))

    def test_numbers_of_the_same_letters_are_added(self):
        told = (((0, 1), -2), ((0, 1, 2), 2), ((0, 2), 5), ((1, 2), -3))
        paired = (((0, 2), 7), ((0, 3), -2), ((1, 2), -1), ((1, 3), -2), ((2, 3), -2), ((3,), 2))
        self.assert_same(paired_sum(told, 3), (paired, 4))

    def test_further_letters_in_the_order_of_the_triples(self):
        told = (((0, 1, 2), -1), ((0, 1, 3), -2), ((1, 2, 3), -3))
        paired = (((0, 4), -1), ((0, 5), -2), ((1, 4), -1), ((1, 5), -2), ((1, 6), -3), ((2, 4), -1), ((2, 6), -3),
                  ((3, 5), -2), ((3, 6), -3), ((4,), 2), ((5,), 4), ((6,), 6))
        self.assert_same(paired_sum(told, 4), (paired, 7))

    def test_the_worth_least_over_the_further_letters_is_that_of_the_sum(self):
        source = random.Random(12)
        for number in range(200):
            count = source.randint(0, 4)
            told = any_sum(source, count, 8) if number % 2 else bent_sum(source, count, 8)
            paired, further = paired_sum(told, count)
            self.assert_same((paired, further), right_paired(told, count))
            self.assertTrue(is_right_sum(paired, further))
            self.assertFalse([letters for letters, _ in paired if len(letters) > 2])
            for row in rows(count):
                worths = [worth(paired, row + rest) for rest in rows(further - count)]
                self.assertEqual(min(worths), worth(told, row))

    def test_it_is_bent_exactly_if_the_sum_is(self):
        source = random.Random(13)
        found = {True: 0, False: 0}
        for number in range(150):
            count = source.randint(2, 4)
            told = any_sum(source, count, 4, 2) if number % 2 else bent_sum(source, count, 4, 2)
            paired, further = paired_sum(told, count)
            # Rows over letters of which there are no more than pairs are asked of the pairs alone.
            bent = not [letters for letters, number in paired if len(letters) == 2 and number > 0]
            if further <= 5:
                self.assertEqual(bent, is_bent_by_rows(paired, further))
            self.assertEqual(bent, is_bent_by_rows(told, count))
            found[bent] += 1
        self.assertGreater(min(found.values()), 20)

    def test_any_value_as_sum(self):
        for told in any_values():
            for count in (0, 1, 3):
                if is_right_sum(told, count):
                    self.assertEqual(paired_sum(told, count), (told, count))
                else:
                    self.assert_wrong(InvalidSum, told, paired_sum, told, count)
                    self.assert_wrong(InvalidSum, told, paired_sum, told=told, letter_count=count)

    def test_wrong_sums(self):
        for told in ([((0,), 1)], (((0,), 0),), (((0,), True),), (((False,), 1),), (((1, 0), 1),), (((0, 1, 2, 3), 1),),
                     (((1,), 1), ((0,), 1)), (((0,), 1), ((0,), 1)), ([(0,), 1],), (([0], 1),), (((4,), 1),), None):
            self.assert_wrong(InvalidSum, told, paired_sum, told, 4)


class DoubledTest(Case):

    def test_without_cells_and_without_ties(self):
        for cells in range(4):
            for start in starts_of(cells):
                puzzle = Puzzle(Book([SKEW]), cells, ())
                self.assert_same(doubled_sum(puzzle, start), ((), 2 * cells))
                self.assert_same(settled(puzzle, start), ())

    def test_numbers_of_no_letters_and_of_one(self):
        told = (((), 2), ((4,), -2), ((5,), 2))
        self.assert_same(doubled_sum(over(RATHER_YES, (2,))), (told, 6))
        self.assert_same(doubled_sum(over(RATHER_YES, (2,), 5), ((2, 0),)), ((((), 20),), 6))
        self.assert_same(doubled_sum(over(RATHER_YES, (2,), 5), ((2, 1),)), ((), 6))
        self.assert_same(doubled_sum(over(Price(1, (0, 3)), (0,), 1, 1)), ((((), 3), ((0,), 3), ((1,), -3)), 2))

    def test_a_pair_below_nought(self):
        told = (((), -1), ((0, 2), -1), ((1,), 1), ((1, 3), -1), ((3,), 1))
        self.assert_same(doubled_sum(over(Price(2, (0, 0, 0, -1)), (0, 1))), (told, 6))

    def test_a_pair_above_nought(self):
        told = (((0,), 1), ((0, 3), -1), ((1, 2), -1), ((2,), 1))
        self.assert_same(doubled_sum(over(Price(2, (0, 0, 0, 1)), (0, 1))), (told, 6))

    def test_a_triple_above_nought(self):
        told = (((), -2), ((0,), 2), ((0, 3), -1), ((0, 5), -1), ((0, 6), -1), ((1,), 1), ((1, 2), -1), ((1, 4), -1),
                ((1, 7), -1), ((2,), 2), ((2, 5), -1), ((2, 6), -1), ((3,), 1), ((3, 4), -1), ((3, 7), -1), ((4,), 2),
                ((4, 6), -1), ((5,), 1), ((5, 7), -1), ((6,), 1), ((7,), 2))
        self.assert_same(doubled_sum(over(TRIPLE, (0, 1, 2))), (told, 8))

    def test_numbers_of_pairs_and_letters_together(self):
        # The sum is 3 alone for each and -6 for both.
        told = (((0, 2), -6), ((0,), 3), ((1, 3), -6), ((1,), 3), ((2,), 3), ((3,), 3))
        self.assert_same(doubled_sum(over(LIKE, (0, 1))), (tuple(sorted(told)), 6))

    def test_many_puzzles_and_starts(self):
        source = random.Random(14)
        for puzzle in many_puzzles(100):
            for start in some_starts(puzzle.cell_count, source, 2):
                told, count = doubled_sum(puzzle, start)
                self.assertTrue(is_right_sum(told, count))
                self.assert_same((told, count), right_doubled(right_sum_of(puzzle, start), puzzle.cell_count))
                self.assertEqual(doubled_sum(puzzle=puzzle, start=start), (told, count))

    def test_it_is_bent(self):
        source = random.Random(15)
        tried = 0
        for puzzle in many_puzzles(100):
            for start in some_starts(puzzle.cell_count, source, 2):
                told, count = doubled_sum(puzzle, start)
                self.assertFalse([letters for letters, _ in told if len(letters) > 2])
                self.assertFalse([letters for letters, number in told if len(letters) == 2 and number > 0])
                network_of(told, count)
        for puzzle in many_puzzles(100, 3, 2):
            told, count = doubled_sum(puzzle)
            if count <= 8:
                tried += 1
                self.assertTrue(is_bent_by_rows(told, count))
        self.assertGreater(tried, 40)

    def test_at_opposites_it_is_worth_twice_the_paired_sum(self):
        for puzzle in many_puzzles(60, 4, 3):
            told, count = doubled_sum(puzzle)
            paired, half = paired_sum(right_sum_of(puzzle, ()), puzzle.cell_count)
            self.assertEqual(count, 2 * half)
            if half > 9:
                continue
            for row in rows(half):
                both = tuple([value for first in row for value in (first, 1 - first)])
                self.assertEqual(worth(told, both), 2 * worth(paired, row))

    def test_starts_that_fix_all_cells(self):
        for puzzle in many_puzzles(20):
            for filling in rows(puzzle.cell_count):
                told = 2 * total(puzzle, filling)
                wanted = ((((), told),) if told else (), 2 * puzzle.cell_count)
                self.assert_same(doubled_sum(puzzle, tuple(enumerate(filling))), wanted)
                self.assert_same(settled(puzzle, tuple(enumerate(filling))), ())


class SettledTest(Case):

    def assert_settled(self, puzzle, start):
        """Putting the values in makes each filling that keeps the start cheaper, unless it has them."""
        pairs = settled(puzzle, start)
        self.assert_same(pairs, tuple(sorted(pairs)))
        cells = [cell for cell, _ in pairs]
        self.assertEqual(len(set(cells)), len(cells))
        self.assertFalse(set(cells) & set([cell for cell, _ in start]))
        for filling in fillings_that_keep(puzzle, start):
            better = put_into(filling, pairs)
            if better != filling:
                self.assertLess(total(puzzle, better), total(puzzle, filling))
        return pairs

    def test_ordinary(self):
        self.assert_same(settled(over(RATHER_YES, (1,))), ((1, 1),))
        self.assert_same(settled(over(Price(1, (0, 2)), (1,))), ((1, 0),))
        self.assert_same(settled(over(LIKE, (0, 1))), ())
        self.assert_same(settled(over(LIKE, (0, 1)), ((0, 1),)), ((1, 1),))
        self.assert_same(settled(puzzle=over(UNLIKE, (0, 1)), start=((0, 1),)), ((1, 0),))
        self.assert_same(settled(over(UNLIKE, (0, 1))), ())
        self.assert_same(settled(over(SKEW, (0, 1, 2))), ())

    def test_cells_that_others_settle(self):
        book = Book([UNLIKE, RATHER_YES])
        chain = Puzzle(book, 4, [(1, (0,), 2), (0, (0, 1), 2), (0, (1, 2), 1)])
        self.assert_same(settled(chain), ((0, 1), (1, 0), (2, 1)))
        self.assert_same(settled(chain, ((1, 1),)), ((0, 1), (2, 0)))

    def test_unlike_all_around_settles_nothing(self):
        triangle = Puzzle(Book([UNLIKE]), 3, [(0, (0, 1), 1), (0, (1, 2), 1), (0, (2, 0), 1)])
        self.assert_same(settled(triangle), ())

    def test_many_puzzles_and_starts(self):
        source = random.Random(16)
        some = 0
        for puzzle in many_puzzles(150):
            for start in some_starts(puzzle.cell_count, source, 3):
                some += len(self.assert_settled(puzzle, start)) > 0
        self.assertGreater(some, 100)

    def test_all_small_puzzles_of_one_tie(self):
        source = random.Random(17)
        for _ in range(60):
            puzzle = any_puzzle(source, 3, source.randint(1, 3), -2, 2)
            for start in starts_of(3):
                self.assert_settled(puzzle, start)

    def test_the_values_are_those_of_the_least_side(self):
        tried = 0
        for puzzle in many_puzzles(120, 3, 2):
            for start in starts_of(puzzle.cell_count)[:4]:
                told, count = right_doubled(right_sum_of(puzzle, start), puzzle.cell_count)
                if count > 8:
                    continue
                tried += 1
                _, cuts = least_cuts(network_of(told, count))
                side = [min(values) for values in zip(*cuts)]
                found = [(cell, 1) for cell in range(puzzle.cell_count) if side[2 + 2 * cell]]
                found += [(cell, 0) for cell in range(puzzle.cell_count) if side[3 + 2 * cell]]
                self.assert_same(settled(puzzle, start), tuple(sorted(found)))
        self.assertGreater(tried, 100)

    def test_of_bent_sums_start_and_pairs_are_what_all_cheapest_have(self):
        source = random.Random(18)
        bent = 0
        for number in range(120):
            puzzle = bent_puzzle(source, number % 6, 6) if number % 3 else any_puzzle(source, number % 6, 1)
            for start in some_starts(puzzle.cell_count, source, 3):
                if not is_bent_by_rows(right_sum_of(puzzle, start), puzzle.cell_count):
                    continue
                bent += 1
                _, cheapest = cheapest_of(puzzle, start)
                found = tuple(sorted(start + settled(puzzle, start)))
                self.assert_same(found, common(cheapest))
                self.assert_same(sure_cells(puzzle, start), found)
        self.assertGreater(bent, 200)

    def test_thirty_cells_and_a_hundred_ties(self):
        source = random.Random(19)
        for make in (any_puzzle, bent_puzzle):
            puzzle = make(source, 30, 100)
            pairs = settled(puzzle)
            self.assert_same(pairs, tuple(sorted(pairs)))
            for _ in range(50):
                filling = tuple([source.randint(0, 1) for _ in range(30)])
                better = put_into(filling, pairs)
                if better != filling:
                    self.assertLess(total(puzzle, better), total(puzzle, filling))


class StartTest(Case):

    def test_any_value_as_start(self):
        puzzle = over(LIKE, (0, 1), 1, 2)
        right = starts_of(2)
        for start in any_values():
            if start in right and not [pair for pair in start if bool in [type(part) for part in pair]]:
                self.assertEqual(doubled_sum(puzzle, start), right_doubled(right_sum_of(puzzle, start), 2))
                self.assertEqual(settled(puzzle, start), settled(puzzle, tuple(start)))
                continue
            for call in (doubled_sum, settled):
                self.assert_wrong(InvalidStart, start, call, puzzle, start)
                self.assert_wrong(InvalidStart, start, call, puzzle=puzzle, start=start)

    def test_wrong_starts(self):
        for start in ([(0, 1)], ([0, 1],), [], ((3, 0),), ((0, 2),), ((0, True),), ((False, 0),), ((1, 0), (0, 0)),
                      ((0, 0), (0, 0)), ((0,),), None, 0, "start"):
            for call in (doubled_sum, settled):
                self.assert_wrong(InvalidStart, start, call, over(LIKE, (0, 1)), start)

    def test_equal_calls_return_equal_results(self):
        for one, other in zip(many_puzzles(20), many_puzzles(20)):
            self.assertEqual(doubled_sum(one), doubled_sum(other))
            self.assertEqual(settled(one), settled(other, ()))
            self.assertEqual(settled(one), settled(one))


if __name__ == "__main__":
    unittest.main()
