"""Values of every kind, to be passed where most of them are wrong."""

import itertools

from cutorall.books import Book
from cutorall.prices import Price
from cutorall.puzzles import Puzzle


class AlwaysEqual:
    """It says of everything that it is equal to it."""

    def __eq__(self, other):
        return True


def nested(kind, depth):
    """An integer within depth lists or tuples."""
    value = 0
    for _ in range(depth):
        value = kind([value])
    return value


def any_values():
    """Integers, bools, None, strings, objects of the package, lists and tuples of such, made anew."""
    book = Book([Price(1, (0, 1))])
    return [
        0, 1, 2, 3, 4, -1, 10 ** 50, -10 ** 50, True, False, None, "", "0", "1", "01", "size",
        Price(1, (0, 1)), Price(2, (0, 1, 1, 0)), book, Puzzle(book, 2, [(0, (1,), 1)]),
        (), [], (0,), [0], (1,), [1], (True,), (False,), [True], (None,), ("0",), ((0,),), ([0],),
        (0, 1), [0, 1], (1, 2), (-1, 0), (0, False), [True, 1], (0, None), (0, "1"), (0, 1, 0), [0, 1, 0],
        (0, 0, 0, 0), (Price(1, (0, 1)),), [Price(1, (0, 1)), 0], (book,), (Puzzle(book, 0, ()),),
        ((0, 1),), [(0, 1)], ([0, 1],), ((0, True),), ((False, 1),), ((0, 1), (1, 0)), ((1, 0), (0, 1)), ((0, 1), (0, 1)),
        ((0, 2),), ((-1, 0),), ((0, 1, 0),), ((),), ([],), (((), 1),), (((), 0),), (((), True),), (((0,), 1), ((0, 1), -2)),
        (0, (0,), 1), (0, (0, 1), 1), [0, (0,), 1], (0, [0], 1), ("all",), ["all"], ("cut", ("bent",)), ("cut", ["bent"]),
        nested(list, 30), nested(tuple, 30),
    ]


def rows(size):
    """All rows of size values, ascending."""
    return list(itertools.product((0, 1), repeat=size))
