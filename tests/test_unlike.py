"""Point [20] and "cutorall/unlike.py" in the interface."""

import inspect
import itertools
import random
import unittest

from cutorall import unlike
from cutorall.books import Book
from cutorall.errors import Undefined
from cutorall.prices import Price
from cutorall.puzzles import Puzzle, is_start
from cutorall.sides import side
from cutorall.unlike import unlike_puzzle
from cutorall.writing import written_price
from tests.cases import Case, is_plain
from tests.samples import LIKE, LIKE_THREE, RATHER_YES, SKEW, UNLIKE, any_price, many_books, prices_of
from tests.test_kinds import ONLY, books
from tests.test_writing import right_written


class UnlikeCase(Case):

    def assert_unlike(self, book, fixed):
        """The price of unlike is written if the book is of none of the kinds, and Undefined is raised otherwise."""
        if side(book, fixed=fixed) != ("all",):
            self.assert_error(Undefined, {"what": "kind"}, unlike_puzzle, book, fixed=fixed)
            return None
        found = unlike_puzzle(book, fixed=fixed)
        self.assertIs(type(found), tuple)
        puzzle, start, cells, amount, penalty = found
        self.assertIs(type(puzzle), Puzzle)
        self.assertTrue(puzzle.book == book)
        self.assertLessEqual(puzzle.cell_count, 9)
        self.assertTrue(is_start(puzzle, start))
        if not fixed:
            self.assertEqual(start, ())
        self.assert_same(cells, tuple(cells))
        self.assertEqual((len(cells), len(set(cells))), (2, 2))
        self.assertTrue(is_plain(amount) and is_plain(penalty) and penalty >= 1)
        wanted = Price(2, (amount + penalty, amount, amount, amount + penalty))
        self.assertEqual(written_price(puzzle, cells, start), wanted)
        return found


class UnlikeTest(UnlikeCase):

    def test_interface(self):
        self.assertEqual(unlike_puzzle.__module__, "cutorall.unlike")
        self.assertIs(unlike.unlike_puzzle, unlike_puzzle)
        parameters = inspect.signature(unlike_puzzle).parameters
        self.assertEqual(list(parameters), ["book", "fixed"])
        self.assertIs(parameters["fixed"].default, False)
        self.assertEqual(parameters["fixed"].kind, inspect.Parameter.KEYWORD_ONLY)
        with self.assertRaises(TypeError):
            unlike_puzzle(Book([UNLIKE]), True)

    def test_by_all_fillings(self):
        for prices in ([UNLIKE], [UNLIKE, RATHER_YES], [SKEW], [Price(3, (5, 1, 1, 1, 1, 1, 1, 7))],
                       [RATHER_YES, Price(1, (0, 1)), UNLIKE.plus(Price(2, (9, 0, 4, -6)))]):
            for fixed in (False, True):
                found = self.assert_unlike(Book(prices), fixed)
                if found is not None:
                    puzzle, start, cells, amount, penalty = found
                    wanted = (amount + penalty, amount, amount, amount + penalty)
                    self.assertEqual(right_written(puzzle, cells, start).amounts, wanted)

    def test_the_default_is_not_fixed(self):
        self.assertEqual(unlike_puzzle(Book([SKEW])), unlike_puzzle(Book([SKEW]), fixed=False))
        self.assertEqual(unlike_puzzle(book=Book([SKEW])), unlike_puzzle(fixed=False, book=Book([SKEW])))
        self.assertEqual(unlike_puzzle(Book([UNLIKE]))[1], ())

    def test_books_of_the_kinds(self):
        for word in ONLY:
            book = Book([ONLY[word][0]])
            for fixed in (False, True):
                self.assert_unlike(book, fixed)
        for book in (Book([LIKE]), Book([LIKE_THREE, RATHER_YES]), Book([Price(1, (0, 0))])):
            for fixed in (False, True):
                self.assert_error(Undefined, {"what": "kind"}, unlike_puzzle, book, fixed=fixed)

    def test_fixed_and_not_fixed_differ(self):
        # All no is cheapest, but the price is neither rising nor bent.
        book = Book([Price(2, (0, 2, 3, 1)), Price(2, (0, 1, 1, 5))])
        self.assertEqual((side(book), side(book, fixed=True)), (("cut", ("all no",)), ("all",)))
        self.assert_error(Undefined, {"what": "kind"}, unlike_puzzle, book)
        found = self.assert_unlike(book, True)
        self.assertNotEqual(found[1], ())

    def test_all_prices_of_two_places(self):
        written = 0
        for price in prices_of(2, (0, 1, 2, 4)):
            for fixed in (False, True):
                written += self.assert_unlike(Book([price]), fixed) is not None
        self.assertGreater(written, 100)

    def test_all_pairs_of_small_prices(self):
        written = 0
        for pair in itertools.combinations(prices_of(2, (0, 1)) + prices_of(1, (0, 1)), 2):
            for fixed in (False, True):
                written += self.assert_unlike(Book(pair), fixed) is not None
        self.assertGreater(written, 100)

    def test_prices_of_three_places(self):
        source = random.Random(61)
        for most in (1, 2, 5, 999999):
            for _ in range(40):
                price = any_price(source, 3, -most, most)
                for book in (Book([price]), Book([price.plus(price.opposite())]),
                             Book([price, price.opposite()]), Book([price, RATHER_YES])):
                    for fixed in (False, True):
                        self.assert_unlike(book, fixed)

    def test_books_of_each_kind_and_of_none(self):
        found = {(fixed, written): 0 for fixed in (False, True) for written in (False, True)}
        for book in many_books(280, 62) + books()[:200]:
            for fixed in (False, True):
                found[fixed, self.assert_unlike(book, fixed) is not None] += 1
        self.assertGreater(min(found.values()), 50)

    def test_prices_that_cost_alike_at_opposites_beside_others(self):
        # Unlike parts the cells, but a tie of another price tells no from yes.
        three = Price(3, (2, 1, 1, 1, 1, 1, 1, 2))
        for price in (RATHER_YES, Price(1, (0, 2)), Price(2, (0, 1, 0, 0)), Price(2, (3, 5, 4, 3)), SKEW):
            for first in (UNLIKE, three):
                for fixed in (False, True):
                    self.assert_unlike(Book([first, price]), fixed)
                    self.assert_unlike(Book([price, first, LIKE]), fixed)
        # The other price outweighs unlike by far.
        for amounts in ((0, 10 ** 6 - 1, -10 ** 6, 0), (10 ** 6 - 1, -9, -10, -10 ** 6), (-10 ** 6, 7, 5, 10 ** 6)):
            for fixed in (False, True):
                self.assert_unlike(Book([UNLIKE, Price(2, amounts)]), fixed)

    def test_forcing_that_another_price_would_outweigh(self):
        # The second price alone parts the cells, by 1 from both no; the first one wants them alike by far more.
        for first, second in (((-999999, 5, 1, -999999), (1, 0, 0, 999999)), ((-999999, 5, 1, -999999), (999999, 0, 0, 1)),
                              ((-50, 2, 5, -50), (3, 0, 0, 1)), ((-50, 2, 5, -49), (1, 0, 0, 1))):
            for fixed in (False, True):
                self.assertIsNotNone(self.assert_unlike(Book([Price(2, first), Price(2, second)]), fixed))

    def test_equal_calls_return_equal_results(self):
        for one, other in zip(many_books(60, 63), many_books(60, 63)):
            for fixed in (False, True):
                if side(one, fixed=fixed) == ("all",):
                    self.assertEqual(unlike_puzzle(one, fixed=fixed), unlike_puzzle(other, fixed=fixed))
                    self.assertEqual(unlike_puzzle(one, fixed=fixed), unlike_puzzle(one, fixed=fixed))


if __name__ == "__main__":
    unittest.main()
