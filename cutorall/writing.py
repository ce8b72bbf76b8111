"""Prices that a puzzle writes: what the values of a few cells cost at least."""

from cutorall.basics import is_integer, rows_of
from cutorall.errors import InvalidCells
from cutorall.prices import Price
from cutorall.puzzles import free_cells
from cutorall.sums import sum_of, worths

MOST_CELLS = 3


def _are_cells(value, free):
    """Whether value is a tuple of one to three unlike cells out of free."""
    if not isinstance(value, tuple) or not 1 <= len(value) <= MOST_CELLS:
        return False
    return all([is_integer(cell) and cell in free for cell in value]) and len(set(value)) == len(value)


def written_price(puzzle, cells, start=()):
    """The price whose rows cost the least total of the fillings that keep the start and have them at the cells."""
    told = sum_of(puzzle, start)
    free = free_cells(puzzle, start)
    if not _are_cells(cells, free):
        raise InvalidCells(cells)
    places = [free.index(cell) for cell in cells]
    least = {}
    for row, worth in zip(rows_of(len(free)), worths(told, free)):
        values = tuple([row[place] for place in places])
        least[values] = min(worth, least.get(values, worth))
    return Price(len(cells), [least[values] for values in rows_of(len(cells))])
