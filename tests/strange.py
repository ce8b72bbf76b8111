"""Values of every kind, to be passed where most of them are wrong."""

from cutorall.books import Book
from cutorall.prices import Price


class AlwaysEqual:
    """It says of everything that it is equal to it."""

    def __eq__(self, other):
        return True


def nested(kind, depth):
    """An integer within depth lists or tuples."""
    value = 0
    for _ in range(depth):
        value = kind([value])
    return value


def any_values():
    """Integers, bools, None, strings, objects of the package, lists and tuples of such, made anew."""
    return [
        0, 1, 2, 3, 4, -1, 10 ** 50, -10 ** 50, True, False, None, "", "0", "1", "01", "size",
        Price(1, (0, 1)), Price(2, (0, 1, 1, 0)), Book([Price(1, (0, 1))]),
        (), [], (0,), [0], (1,), [1], (True,), (False,), [True], (None,), ("0",), ((0,),), ([0],),
        (0, 1), [0, 1], (1, 2), (-1, 0), (0, False), [True, 1], (0, None), (0, "1"), (0, 1, 0), [0, 1, 0],
        (0, 0, 0, 0), (Price(1, (0, 1)),), [Price(1, (0, 1)), 0], (Book([Price(1, (0, 1))]),),
        nested(list, 30), nested(tuple, 30),
    ]


def rows(size):
    """All rows of size values, ascending, told by the figures of their numbers to base two."""
    return [tuple(int(sign) for sign in format(number, "b").zfill(size)) for number in range(2 ** size)]
