"""Kinds of books, and the rows of a price that show that a book is not of a kind."""

from cutorall.basics import rows_of
from cutorall.errors import Undefined

FREE_WORDS = ("all no", "all yes", "bent")
FIXED_WORDS = ("rising", "falling", "bent")
WORDS = ("all no", "all yes", "bent", "rising", "falling")


def and_of(one, other):
    """The row that has yes where both rows have."""
    return tuple([min(here, there) for here, there in zip(one, other)])


def or_of(one, other):
    """The row that has yes where one of the rows has."""
    return tuple([max(here, there) for here, there in zip(one, other)])


def has_one_more(one, other):
    """Whether other is the row one with one further yes."""
    return and_of(one, other) == one and sum(other) == sum(one) + 1


def rows_to_show(word):
    """How many rows it takes to show that a price is not of the kind."""
    return 1 if word in ("all no", "all yes") else 2


def _row_shows(price, word, row):
    """Whether the row costs less than the row that should be cheapest."""
    value = 0 if word == "all no" else 1
    return price.cost(row) < price.cost((value,) * price.size)


def _pair_shows(price, word, one, other):
    """Whether the two rows show that the price is not "bent", "rising" or "falling", as the word tells."""
    if word == "bent":
        both = price.cost(one) + price.cost(other)
        return both < price.cost(and_of(one, other)) + price.cost(or_of(one, other))
    if not has_one_more(one, other):
        return False
    if word == "rising":
        return price.cost(other) < price.cost(one)
    return price.cost(other) > price.cost(one)


def shows(price, word, shown):
    """Whether the tuple of rows, as many as it takes, shows that the price is not of the kind."""
    if rows_to_show(word) == 1:
        return _row_shows(price, word, shown[0])
    return _pair_shows(price, word, shown[0], shown[1])


def _that_may_show(size, word):
    """The tuples of rows of which the first that shows a fault is told, ascending."""
    rows = rows_of(size)
    if rows_to_show(word) == 1:
        return [(row,) for row in rows]
    # A row with one further yes is always behind the row without it.
    return [(one, other) for one in rows for other in rows if one < other]


def fault_of(book, word):
    """The number of the first price that is not of the kind and the first rows that show it, or None."""
    if word not in WORDS:
        raise Undefined("word")
    for number, price in enumerate(book.prices):
        for shown in _that_may_show(price.size, word):
            if shows(price, word, shown):
                return (number,) + shown
    return None


def is_kind(book, word):
    """Whether all prices of the book are of the kind."""
    return fault_of(book, word) is None


def free_kinds(book):
    """Those of "all no", "all yes" and "bent" of which the book is."""
    return tuple([word for word in FREE_WORDS if is_kind(book, word)])


def fixed_kinds(book):
    """Those of "rising", "falling" and "bent" of which the book is."""
    return tuple([word for word in FIXED_WORDS if is_kind(book, word)])
