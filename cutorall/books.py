"""Books: the prices that the ties of a puzzle may use."""

from cutorall.basics import is_sequence
from cutorall.errors import InvalidBook
from cutorall.prices import Price


def _are_prices(value):
    """Whether value is a sequence of one to six prices."""
    return is_sequence(value) and 1 <= len(value) <= 6 and all([isinstance(member, Price) for member in value])


class Book:
    """One to six prices, numbered from 0 in their order."""

    def __init__(self, prices):
        if not _are_prices(prices):
            raise InvalidBook(prices)
        self.prices = tuple(prices)

    def __eq__(self, other):
        return isinstance(other, Book) and self.prices == other.prices

    def __len__(self):
        return len(self.prices)
