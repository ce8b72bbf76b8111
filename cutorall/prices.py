"""Prices: what each row of one to three values costs."""

from cutorall.basics import is_integer, is_number_below, is_row, is_sequence, is_size, is_value, row_number, rows_of
from cutorall.errors import InvalidFilling, InvalidNumber, InvalidPrice, Undefined


def _are_amounts(value, size):
    """Whether value is a sequence with one integer for each row of size values."""
    return is_sequence(value) and len(value) == 1 << size and all([is_integer(amount) for amount in value])


def _are_places(value, count, size):
    """Whether value is a sequence of count places of a row of size values."""
    return is_sequence(value) and len(value) == count and all([is_number_below(place, size) for place in value])


class Price:
    """What each row of size values costs: amounts has an integer for each row, ascending."""

    def __init__(self, size, amounts):
        if not is_size(size) or not _are_amounts(amounts, size):
            raise InvalidPrice((size, amounts))
        self.size = size
        self.amounts = tuple(amounts)

    def __eq__(self, other):
        return isinstance(other, Price) and self.size == other.size and self.amounts == other.amounts

    def cost(self, row):
        """What the row costs."""
        if not is_row(row, self.size):
            raise InvalidFilling(row)
        return self.amounts[row_number(row)]

    def least(self):
        """The least amount."""
        return min(self.amounts)

    def cheapest_rows(self):
        """The rows that cost the least amount, ascending."""
        lowest = self.least()
        return tuple([row for row in rows_of(self.size) if self.cost(row) == lowest])

    def opposite(self):
        """The price at which each row costs what its opposite costs here."""
        # The opposites of the rows in ascending order are the rows in descending order.
        return Price(self.size, self.amounts[::-1])

    def plus(self, other):
        """The price at which each row costs what it costs here and in other together."""
        # What is no price has no size, so it has none that is like this one.
        if not isinstance(other, Price) or other.size != self.size:
            raise Undefined("size")
        return Price(self.size, [here + there for here, there in zip(self.amounts, other.amounts)])

    def times(self, many):
        """The price at which each row costs many times as much."""
        if not is_integer(many) or many < 1:
            raise InvalidNumber(many)
        return Price(self.size, [many * amount for amount in self.amounts])

    def fixed(self, place, value):
        """The price of the other places, in order, with this place at the value."""
        if not is_number_below(place, self.size):
            raise InvalidNumber(place)
        if not is_value(value):
            raise InvalidNumber(value)
        if self.size == 1:
            raise Undefined("size")
        rest = self.size - 1
        return Price(rest, [self.cost(row[:place] + (value,) + row[place:]) for row in rows_of(rest)])

    def read_at(self, places, size):
        """The price of size cells at which a row costs what its values at places cost here."""
        if not is_size(size):
            raise InvalidNumber(size)
        if not _are_places(places, self.size, size):
            raise InvalidNumber(places)
        return Price(size, [self.cost(tuple([row[place] for place in places])) for row in rows_of(size)])
