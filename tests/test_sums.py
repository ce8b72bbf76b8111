"""Points [12] and [13] and "cutorall/sums.py" in the interface."""

import inspect
import itertools
import random
import unittest

from cutorall import sums
from cutorall.books import Book
from cutorall.errors import InvalidNumber, InvalidStart, InvalidSum
from cutorall.prices import Price
from cutorall.puzzles import Puzzle
from cutorall.sums import added, is_bent, is_sum, price_of, sum_of, sum_of_price, worth_at
from tests.cases import Case, is_plain
from tests.samples import (
    LIKE, LIKE_THREE, RATHER_YES, SKEW, UNLIKE, any_price, any_sum, bent_sum, fillings_that_keep, is_bent_by_rows,
    many_puzzles, prices_of, some_starts, starts_of, sum_of_numbers, total, worth)
from tests.strange import any_values, rows

# A sum over 4 letters with members of each length.
ORDINARY = (((), 5), ((0,), -2), ((0, 1), 3), ((0, 1, 3), -1), ((0, 3), 7), ((1, 2, 3), 4), ((2,), 9))


def is_right_sum(value, letter_count):
    """Whether it is a sum, told as [12] tells it."""
    if type(value) is not tuple:
        return False
    for member in value:
        if type(member) is not tuple or len(member) != 2 or type(member[0]) is not tuple or not is_plain(member[1]):
            return False
        letters, number = member
        if len(letters) > 3 or number == 0 or not all([is_plain(letter) for letter in letters]):
            return False
        if list(letters) != sorted(set(letters)) or not all([0 <= letter < letter_count for letter in letters]):
            return False
    found = [letters for letters, _ in value]
    return found == sorted(set(found))


def sum_by_rows(tell, letters):
    """The sum over these letters whose worth at the row with yes just at some of them is what tell answers.

    It is told of at most three letters at once, each by what is lacking of the answers for fewer of them.
    """
    numbers = {}
    for count in range(min(3, len(letters)) + 1):
        for some in itertools.combinations(letters, count):
            fewer = [number for found, number in numbers.items() if set(found) <= set(some)]
            numbers[some] = tell(some) - sum(fewer)
    return sum_of_numbers(numbers)


def right_sum_of(puzzle, start):
    """The sum of the puzzle and the start, told by totals of fillings."""
    fixed = dict(start)

    def tell(yes):
        filling = tuple([fixed.get(cell, int(cell in yes)) for cell in range(puzzle.cell_count)])
        return total(puzzle, filling)

    return sum_by_rows(tell, [cell for cell in range(puzzle.cell_count) if cell not in fixed])


class IsSumTest(Case):

    def test_interface(self):
        functions = {
            "is_sum": ["value", "letter_count"], "worth_at": ["told", "row"], "added": ["one", "other"],
            "sum_of": ["puzzle", "start"], "price_of": ["told", "size"], "sum_of_price": ["price"],
            "is_bent": ["told"],
        }
        for name, parameters in functions.items():
            function = getattr(sums, name)
            self.assertEqual(function.__module__, "cutorall.sums")
            self.assertEqual(list(inspect.signature(function).parameters), parameters)
        self.assertEqual(inspect.signature(sum_of).parameters["start"].default, ())

    def assert_sum(self, value, letter_count):
        right = is_right_sum(value, letter_count)
        self.assertIs(is_sum(value, letter_count), right)
        self.assertIs(is_sum(value=value, letter_count=letter_count), right)
        return right

    def test_ordinary_and_empty(self):
        for count in range(8):
            self.assertIs(self.assert_sum(ORDINARY, count), count >= 4)
            self.assertTrue(self.assert_sum((), count))
            self.assertTrue(self.assert_sum((((), -3),), count))
        self.assertFalse(self.assert_sum((((0,), 1),), 0))

    def test_any_value(self):
        for count in range(4):
            for value in any_values():
                self.assert_sum(value, count)

    def test_any_value_within(self):
        for value in any_values():
            for told in ((value,), ((value, 1),), (((), value),), (((value,), 1),), (((0,), value),), [value],
                         (((0, value), 1),), (((value, 2), 1),), (((0, 1, value), 1),), (((0,), 1), value),
                         (((), 1), (value, 1)), ((value, 1), ((1,), 1)), (((), 1, value),), (((0,), 1), ((1,), value))):
                for count in (1, 3):
                    self.assert_sum(told, count)

    def test_wrong_sums(self):
        wrong = [
            (((0,), 0),), (((), 0),), (((0,), True),), (((0,), False),), (((0,), 1), ((0,), 2)), (((0,), 1), ((0,), 1)),
            (((1,), 1), ((0,), 1)), (((0,), 1), ((), 1)), (((0, 1), 1), ((0,), 1)), (((0, 2), 1), ((0, 1, 2), 1)),
            (((1, 0), 1),), (((0, 0), 1),), (((0, 1, 1), 1),), (((0, 2, 1), 1),), (((0, 1, 2, 3), 1),), (((4,), 1),),
            (((-1,), 1),), (((True,), 1),), (((False, 1), 1),), (((0, True), 1),), (([0], 1),), ([(0,), 1],),
            [((0,), 1)], (((0,), 1, 1),), (((0,),),), ((0, 1),), (((0,), None),), (((0,), "1"),), ((None, 1),),
            ((((0,),), 1),), ((),), (1,), 1, None, "", (0,), ((0,), 1), (((0,), 1), None), {(0,): 1},
        ]
        for value in wrong:
            self.assertFalse(self.assert_sum(value, 4))
            self.assert_wrong(InvalidSum, value, price_of, value, 3)

    def test_rising_is_the_order_of_tuples(self):
        members = [letters for count in range(4) for letters in itertools.combinations(range(3), count)]
        for one, other in itertools.product(members, repeat=2):
            self.assertIs(is_sum(((one, 1), (other, -1)), 3), one < other)
        self.assertTrue(is_sum(tuple([(letters, 1) for letters in sorted(members)]), 3))

    def test_a_hundred_letters_and_four_hundred_members(self):
        members = sorted(itertools.combinations(range(100), 2))[:300] + [(99,)] + [(k, 98, 99) for k in range(97)]
        told = tuple([(letters, -999999) for letters in sorted(members)])
        self.assertTrue(is_sum(told, 100))
        self.assertFalse(is_sum(told, 99))
        self.assertTrue(is_bent(told))
        self.assert_same(worth_at(told, (1,) * 100), -999999 * len(members))

    def test_many_sums(self):
        source = random.Random(1)
        for _ in range(200):
            count = source.randint(0, 6)
            self.assertTrue(self.assert_sum(any_sum(source, count, 9), count))
            self.assertTrue(self.assert_sum(bent_sum(source, count, 9), count))


class WorthTest(Case):

    def test_ordinary(self):
        self.assert_same(worth_at(ORDINARY, (0, 0, 0, 0)), 5)
        self.assert_same(worth_at(ORDINARY, (1, 0, 0, 0)), 3)
        self.assert_same(worth_at(ORDINARY, (1, 1, 0, 1)), 5 - 2 + 3 - 1 + 7)
        self.assert_same(worth_at(told=ORDINARY, row=(0, 1, 1, 1)), 5 + 4 + 9)
        self.assert_same(worth_at((), ()), 0)
        self.assert_same(worth_at((), (1, 1)), 0)
        self.assert_same(worth_at((((), -4),), ()), -4)

    def test_rows_that_have_more_than_all_letters(self):
        self.assert_same(worth_at(ORDINARY, (0, 1, 1, 1, 1, 0, 1)), 18)

    def test_many_sums(self):
        source = random.Random(2)
        for _ in range(100):
            count = source.randint(0, 5)
            told = any_sum(source, count, 9)
            for row in rows(count):
                self.assert_same(worth_at(told, row), worth(told, row))


class AddedTest(Case):

    def test_ordinary(self):
        self.assert_same(added((((), 1), ((0,), 2)), (((0,), 3), ((0, 1), 4))), (((), 1), ((0,), 5), ((0, 1), 4)))
        self.assert_same(added(one=ORDINARY, other=()), ORDINARY)
        self.assert_same(added((), ORDINARY), ORDINARY)
        self.assert_same(added((), ()), ())

    def test_a_number_that_becomes_nought_is_no_member(self):
        self.assert_same(added((((0,), 2), ((1,), 1)), (((0,), -2),)), (((1,), 1),))
        self.assert_same(added(ORDINARY, tuple([(letters, -number) for letters, number in ORDINARY])), ())
        self.assert_same(added((((), 1),), (((), -1),)), ())

    def test_the_members_rise(self):
        self.assert_same(added((((2,), 1),), (((0, 1, 2), 1),)), (((0, 1, 2), 1), ((2,), 1)))

    def test_the_worth_is_that_of_both_together(self):
        source = random.Random(3)
        for _ in range(150):
            count = source.randint(0, 4)
            one, other = any_sum(source, count, 8, 2), any_sum(source, count, 8, 2)
            both = added(one, other)
            self.assertTrue(is_right_sum(both, count))
            for row in rows(count):
                self.assertEqual(worth(both, row), worth(one, row) + worth(other, row))
            self.assert_same(both, added(other, one))


class PriceTest(Case):

    def test_ordinary(self):
        self.assert_same(sum_of_price(LIKE), (((0,), 3), ((0, 1), -6), ((1,), 3)))
        self.assert_same(sum_of_price(price=RATHER_YES), (((), 2), ((0,), -2)))
        self.assert_same(sum_of_price(Price(3, (0, 0, 0, 0, 0, 0, 0, 1))), (((0, 1, 2), 1),))
        self.assert_same(sum_of_price(Price(3, (0,) * 8)), ())
        self.assert_same(sum_of_price(Price(2, (7,) * 4)), (((), 7),))
        self.assertEqual(price_of((((0,), 3), ((0, 1), -6), ((1,), 3)), 2), LIKE)
        self.assertEqual(price_of(told=(), size=3), Price(3, (0,) * 8))
        self.assertEqual(price_of((((0,), 1),), 3), Price(3, (0, 0, 0, 0, 1, 1, 1, 1)))
        self.assertEqual(price_of((((1,), 1),), 2), Price(2, (0, 1, 0, 1)))

    def test_all_small_prices_there_and_back(self):
        source = random.Random(4)
        prices = prices_of(1, (-1, 0, 1)) + prices_of(2, (-1, 0, 1)) + [any_price(source, 3, -2, 2) for _ in range(200)]
        for price in prices + [SKEW, LIKE_THREE]:
            told = sum_of_price(price)
            self.assertTrue(is_right_sum(told, price.size))
            for row in rows(price.size):
                self.assertEqual(worth(told, row), price.cost(row))
            self.assertEqual(price_of(told, price.size), price)

    def test_all_sums_there_and_back(self):
        source = random.Random(5)
        for _ in range(200):
            size = source.randint(1, 3)
            told = any_sum(source, size, 6)
            price = price_of(told, size)
            self.assertIs(type(price), Price)
            self.assert_same((price.size, price.amounts), (size, tuple([worth(told, row) for row in rows(size)])))
            self.assert_same(sum_of_price(price), told)

    def test_any_value_as_size(self):
        for size in any_values():
            if is_plain(size) and 1 <= size <= 3:
                self.assertEqual(price_of((), size).size, size)
            else:
                self.assert_wrong(InvalidNumber, size, price_of, (), size)
                self.assert_wrong(InvalidNumber, size, price_of, told=None, size=size)

    def test_any_value_as_sum(self):
        for told in any_values() + [ORDINARY]:
            for size in (1, 2, 3):
                if is_right_sum(told, size):
                    self.assertEqual(price_of(told, size).size, size)
                else:
                    self.assert_wrong(InvalidSum, told, price_of, told, size)
                    self.assert_wrong(InvalidSum, told, price_of, told=told, size=size)

    def test_letters_below_the_size_only(self):
        for size in (1, 2, 3):
            price_of((((size - 1,), 1),), size)
            told = (((size,), 1),)
            self.assert_wrong(InvalidSum, told, price_of, told, size)

    def test_the_order_of_errors(self):
        for size in (0, 4, True, None):
            self.assert_wrong(InvalidNumber, size, price_of, None, size)


class SumOfTest(Case):

    def test_ordinary(self):
        puzzle = Puzzle(Book([LIKE, RATHER_YES]), 3, [(0, (2, 0), 2), (1, (1,), 3)])
        self.assert_same(sum_of(puzzle), (((), 6), ((0,), 6), ((0, 2), -12), ((1,), -6), ((2,), 6)))
        self.assert_same(sum_of(puzzle, ((0, 1),)), (((), 12), ((1,), -6), ((2,), -6)))
        self.assert_same(sum_of(puzzle=puzzle, start=((1, 0), (2, 0))), (((), 6), ((0,), 6)))
        self.assert_same(sum_of(puzzle, ((1, 1), (2, 0))), (((0,), 6),))

    def test_without_cells_and_without_ties(self):
        for cells in range(4):
            for start in starts_of(cells):
                self.assert_same(sum_of(Puzzle(Book([SKEW]), cells, ()), start), ())

    def test_a_cell_more_than_once_in_a_tie(self):
        book = Book([SKEW, UNLIKE])
        self.assert_same(sum_of(Puzzle(book, 2, [(0, (1, 1, 1), 1)])), (((), 4), ((1,), -2)))
        self.assert_same(sum_of(Puzzle(book, 2, [(1, (0, 0), 5)])), (((), 5),))
        # What it costs at (0, 0), (0, 1), (1, 0) and (1, 1): SKEW at 000, 101, 010 and 111.
        found = sum_of(Puzzle(book, 2, [(0, (1, 0, 1), 1)]))
        self.assert_same(found, (((), 4), ((0,), -4), ((0, 1), 2 - 0 + 1 + 4), ((1,), -5)))

    def test_numbers_that_become_nought(self):
        book = Book([LIKE, UNLIKE])
        self.assert_same(sum_of(Puzzle(book, 2, [(0, (0, 1), 1), (1, (0, 1), 3)])), (((), 3),))
        self.assert_same(sum_of(Puzzle(book, 2, [(0, (0, 1), 1), (1, (1, 0), 3)]), ((0, 1),)), (((), 3),))

    def test_many_puzzles_and_starts(self):
        source = random.Random(6)
        for puzzle in many_puzzles(100):
            for start in some_starts(puzzle.cell_count, source, 3):
                told = sum_of(puzzle, start)
                self.assertTrue(is_right_sum(told, puzzle.cell_count))
                fixed = [cell for cell, _ in start]
                self.assertFalse([letters for letters, _ in told if set(letters) & set(fixed)])
                for filling in fillings_that_keep(puzzle, start):
                    self.assertEqual(worth(told, filling), total(puzzle, filling))
                self.assert_same(told, right_sum_of(puzzle, start))

    def test_a_start_that_fixes_every_cell(self):
        for puzzle in many_puzzles(20):
            for filling in rows(puzzle.cell_count):
                self.assertEqual(sum_of(puzzle, tuple(enumerate(filling))), right_sum_of(puzzle, tuple(enumerate(filling))))
                told = total(puzzle, filling)
                self.assert_same(sum_of(puzzle, tuple(enumerate(filling))), (((), told),) if told else ())

    def test_any_value_as_start(self):
        puzzle = Puzzle(Book([LIKE]), 2, [(0, (0, 1), 1)])
        right = starts_of(2)
        for start in any_values():
            if start in right and not [pair for pair in start if bool in [type(part) for part in pair]]:
                self.assertEqual(sum_of(puzzle, start), right_sum_of(puzzle, start))
            else:
                self.assert_wrong(InvalidStart, start, sum_of, puzzle, start)
                self.assert_wrong(InvalidStart, start, sum_of, puzzle=puzzle, start=start)

    def test_wrong_starts(self):
        puzzle = Puzzle(Book([LIKE]), 2, [(0, (0, 1), 1)])
        for start in ([(0, 1)], ([0, 1],), ((2, 0),), ((0, 2),), ((0, True),), ((False, 0),), ((1, 0), (0, 0)), None, 0):
            self.assert_wrong(InvalidStart, start, sum_of, puzzle, start)

    def test_thirty_cells_and_a_hundred_ties(self):
        ties = [(0, (k % 30, (k + 1) % 30, (k + 5) % 30), 999999) for k in range(100)]
        puzzle = Puzzle(Book([SKEW]), 30, ties)
        told = sum_of(puzzle)
        for filling in ((0,) * 30, (1,) * 30, (0, 1) * 15, (1, 0, 0) * 10):
            self.assert_same(worth_at(told, filling), total(puzzle, filling))


class BentTest(Case):

    def test_ordinary(self):
        for told in ((), (((), 5),), (((0,), 3), ((1,), -3)), (((0, 1), -1),), (((0, 1, 2), -1),)):
            self.assertIs(is_bent(told), True)
            self.assertIs(is_bent(told=told), True)
        for told in ((((0, 1), 1),), (((0, 1, 2), 1),), ORDINARY):
            self.assertIs(is_bent(told), False)

    def test_just_bent_and_just_not(self):
        self.assertIs(is_bent((((0, 1), -2), ((0, 1, 2), 2), ((0, 2), -2), ((1, 2), -2))), True)
        self.assertIs(is_bent((((0, 1), -2), ((0, 1, 2), 2), ((0, 2), -2), ((1, 2), -1))), False)
        self.assertIs(is_bent((((0, 1), -2), ((0, 1, 2), 2), ((0, 2), -2))), False)
        two = (((0, 1), -5), ((0, 1, 2), 2), ((0, 1, 3), 3), ((0, 2), -2), ((0, 3), -3), ((1, 2), -2), ((1, 3), -3))
        self.assertIs(is_bent(two), True)
        self.assertIs(is_bent((((0, 1), -4),) + two[1:]), False)

    def test_a_triple_below_nought_makes_up_for_nothing(self):
        self.assertIs(is_bent((((0, 1), 1), ((0, 1, 2), -5))), False)
        mixed = (((0, 1), -2), ((0, 1, 2), 2), ((0, 1, 3), -9), ((0, 2), -2), ((1, 2), -2))
        self.assertIs(is_bent(mixed), True)
        self.assertIs(is_bent((((0, 1), -1),) + mixed[1:]), False)

    def test_it_is_so_exactly_if_the_rows_tell_so(self):
        source = random.Random(7)
        found = {True: 0, False: 0}
        for number in range(600):
            count = source.randint(0, 4)
            told = bent_sum(source, count, 6, 2) if number % 2 else any_sum(source, count, 4, 2)
            if number % 4 == 1 and count > 1:
                told = added(told, (((0, 1), 1),))
            bent = is_bent_by_rows(told, count)
            found[bent] += 1
            self.assertIs(is_bent(told), bent)
        self.assertGreater(min(found.values()), 50)

    def test_all_sums_of_three_letters_with_small_numbers(self):
        pairs = [(0, 1), (0, 2), (1, 2)]
        for numbers in itertools.product((-1, 0, 1), repeat=4):
            told = sum_of_numbers(dict(zip(pairs + [(0, 1, 2)], numbers)))
            self.assertIs(is_bent(told), is_bent_by_rows(told, 3))


class CallsTest(Case):

    def test_equal_calls_return_equal_results(self):
        for one, other in zip(many_puzzles(20), many_puzzles(20)):
            self.assertEqual(sum_of(one), sum_of(other))
            self.assertEqual(sum_of(one), sum_of(one, ()))
            self.assertEqual(added(sum_of(one), ORDINARY), added(sum_of(other), ORDINARY))

    def test_calls_that_raise_change_nothing(self):
        puzzle = Puzzle(Book([LIKE]), 2, [(0, (0, 1), 1)])
        start = [(0, 1)]
        self.assert_wrong(InvalidStart, start, sum_of, puzzle, start)
        self.assertEqual(start, [(0, 1)])
        self.assertEqual(puzzle, Puzzle(Book([LIKE]), 2, [(0, (0, 1), 1)]))


if __name__ == "__main__":
    unittest.main()
