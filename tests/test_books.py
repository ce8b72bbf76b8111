"""Point [6] and "cutorall/books.py" in the interface."""

import inspect
import unittest

from cutorall.books import Book
from cutorall.errors import InvalidBook, PriceError
from cutorall.prices import Price
from tests.strange import AlwaysEqual, any_values

LIKE = Price(2, (0, 3, 3, 0))
UNLIKE = Price(2, (1, 0, 0, 1))
RATHER_YES = Price(1, (2, 0))


class BookTest(unittest.TestCase):

    def assert_invalid(self, prices):
        with self.assertRaises(PriceError) as caught:
            Book(prices)
        self.assertIs(type(caught.exception), InvalidBook)
        self.assertEqual(list(vars(caught.exception)), ["value"])
        self.assertIs(caught.exception.value, prices)

    def test_interface(self):
        self.assertEqual(Book.__module__, "cutorall.books")
        self.assertEqual(list(inspect.signature(Book).parameters), ["prices"])
        self.assertLessEqual({"__eq__", "__len__"}, set(vars(Book)))
        self.assertIn("prices", vars(Book([LIKE])))

    def test_one_to_six_prices_by_list_and_tuple(self):
        for count in range(1, 7):
            prices = [Price(1, (0, number)) for number in range(count)]
            for book in (Book(prices), Book(tuple(prices)), Book(prices=prices)):
                self.assertIs(type(book.prices), tuple)
                self.assertEqual(book.prices, tuple(prices))
                self.assertEqual(len(book), count)

    def test_prices_of_all_sizes_together(self):
        prices = (LIKE, RATHER_YES, Price(3, (0, 1, 2, 3, 4, 5, 6, 7)))
        self.assertEqual(Book(prices).prices, prices)

    def test_the_same_price_more_than_once(self):
        self.assertEqual(Book([LIKE, LIKE]).prices, (LIKE, LIKE))
        self.assertEqual(len(Book([LIKE, LIKE])), 2)

    def test_none_and_seven_prices(self):
        for prices in ([], (), [LIKE] * 7, (LIKE,) * 7, [LIKE] * 20):
            self.assert_invalid(prices)

    def test_any_value_as_prices(self):
        for prices in any_values():
            right = isinstance(prices, (list, tuple)) and 1 <= len(prices) <= 6
            if right and all(isinstance(price, Price) for price in prices):
                self.assertEqual(Book(prices).prices, tuple(prices))
            else:
                self.assert_invalid(prices)

    def test_any_value_as_one_price(self):
        for value in any_values():
            for prices in ([value], (value,), [LIKE, value], (value, LIKE), [LIKE, UNLIKE, LIKE, UNLIKE, LIKE, value]):
                if isinstance(value, Price):
                    self.assertEqual(Book(prices).prices, tuple(prices))
                else:
                    self.assert_invalid(prices)

    def test_other_wrong_books(self):
        for prices in (LIKE, Book([LIKE]), None, True, "price", {LIKE.size: LIKE}, [[LIKE]], [(2, (0, 3, 3, 0))]):
            self.assert_invalid(prices)

    def test_a_list_changed_later_changes_nothing(self):
        prices = [LIKE, UNLIKE]
        book = Book(prices)
        prices[0] = RATHER_YES
        prices.append(RATHER_YES)
        self.assertEqual(book.prices, (LIKE, UNLIKE))
        self.assertEqual(len(book), 2)

    def test_the_argument_is_not_changed(self):
        prices = [LIKE, None]
        self.assert_invalid(prices)
        self.assertEqual(prices, [LIKE, None])
        prices = [LIKE, UNLIKE]
        Book(prices)
        self.assertEqual(prices, [LIKE, UNLIKE])

    def test_equal_if_prices_are(self):
        made_anew = [Price(2, [0, 3, 3, 0]), Price(1, [2, 0])]
        self.assertTrue(Book([LIKE, RATHER_YES]) == Book(made_anew))
        self.assertFalse(Book([LIKE, RATHER_YES]) != Book(made_anew))
        for other in ([RATHER_YES, LIKE], [LIKE], [LIKE, RATHER_YES, RATHER_YES], [LIKE, UNLIKE], [LIKE, LIKE]):
            self.assertFalse(Book([LIKE, RATHER_YES]) == Book(other))
            self.assertTrue(Book([LIKE, RATHER_YES]) != Book(other))

    def test_equal_to_nothing_of_another_kind(self):
        book = Book([LIKE])
        others = [value for value in any_values() if not isinstance(value, Book)]
        for other in others + [LIKE, [LIKE], (LIKE,), AlwaysEqual()]:
            self.assertIs(book == other, False)
            self.assertIs(book != other, True)
        self.assertIs(LIKE == book, False)

    def test_not_iterable(self):
        with self.assertRaises(TypeError):
            iter(Book([LIKE]))


if __name__ == "__main__":
    unittest.main()
