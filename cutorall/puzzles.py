"""Puzzles: cells, the ties that are laid on them, and what fillings of the cells cost."""

from cutorall.basics import is_integer, is_number, is_number_below, is_row, is_sequence, is_value, row_number
from cutorall.books import Book
from cutorall.errors import InvalidFilling, InvalidNumber, InvalidPuzzle, InvalidStart


def is_tie(value, book, cell_count):
    """Whether value is a tie of the book on cells below cell_count."""
    if not isinstance(value, tuple) or len(value) != 3:
        return False
    price, cells, times = value
    if not is_number_below(price, len(book)) or not isinstance(cells, tuple):
        return False
    if len(cells) != book.prices[price].size or not all([is_number_below(cell, cell_count) for cell in cells]):
        return False
    return is_integer(times) and times >= 1


def _first_that_is_no_tie(ties, book, cell_count):
    """The number of the first member that is no tie, 0 if ties is no sequence, None if all is right."""
    if not is_sequence(ties):
        return 0
    for number, tie in enumerate(ties):
        if not is_tie(tie, book, cell_count):
            return number
    return None


class Puzzle:
    """Cells, numbered from 0, and the ties (price, cells, times) of the book on them."""

    def __init__(self, book, cell_count, ties):
        if not isinstance(book, Book):
            raise InvalidPuzzle("book", 0)
        if not is_number(cell_count):
            raise InvalidPuzzle("cells", 0)
        wrong = _first_that_is_no_tie(ties, book, cell_count)
        if wrong is not None:
            raise InvalidPuzzle("ties", wrong)
        self.book = book
        self.cell_count = cell_count
        self.ties = tuple(ties)

    def __eq__(self, other):
        return (isinstance(other, Puzzle) and self.book == other.book and self.cell_count == other.cell_count
                and self.ties == other.ties)

    def with_tie(self, tie):
        """The puzzle with this tie behind the others."""
        # The ties ahead are right, so what can be wrong is this one, at the number that it would get.
        return Puzzle(self.book, self.cell_count, self.ties + (tie,))

    def without(self, t):
        """The puzzle without the tie of the number t."""
        if not is_number_below(t, len(self.ties)):
            raise InvalidNumber(t)
        return Puzzle(self.book, self.cell_count, self.ties[:t] + self.ties[t + 1:])


def is_filling(puzzle, value):
    """Whether value is a filling of the puzzle."""
    return is_row(value, puzzle.cell_count)


def total_of(puzzle, filling):
    """What the filling costs by all ties together."""
    if not is_filling(puzzle, filling):
        raise InvalidFilling(filling)
    total = 0
    for price, cells, times in puzzle.ties:
        number = row_number([filling[cell] for cell in cells])
        total += times * puzzle.book.prices[price].amounts[number]
    return total


def _is_pair(value, cell_count):
    """Whether value is a pair of a cell and a value."""
    return (isinstance(value, tuple) and len(value) == 2 and is_number_below(value[0], cell_count)
            and is_value(value[1]))


def is_start(puzzle, value):
    """Whether value is a start of the puzzle: pairs (cell, value), cells rising."""
    if not isinstance(value, tuple) or not all([_is_pair(pair, puzzle.cell_count) for pair in value]):
        return False
    return all([one[0] < other[0] for one, other in zip(value, value[1:])])


def put_in(start, cell, value):
    """The start with this pair put in."""
    return tuple(sorted(start + ((cell, value),)))


def free_cells(puzzle, start):
    """The cells that are not fixed by the start, rising."""
    fixed = [cell for cell, _ in start]
    return tuple([cell for cell in range(puzzle.cell_count) if cell not in fixed])


def kept(start, filling):
    """The filling with the values of the start put in."""
    fixed = {cell: value for cell, value in start}
    return tuple([fixed.get(cell, value) for cell, value in enumerate(filling)])


def fillings_of(puzzle, start):
    """All fillings that keep the start, ascending."""
    fixed = {cell: value for cell, value in start}
    fillings = [()]
    for cell in range(puzzle.cell_count):
        values = (fixed[cell],) if cell in fixed else (0, 1)
        fillings = [filling + (value,) for filling in fillings for value in values]
    return tuple(fillings)


def all_cheapest(puzzle, start=()):
    """All fillings of the least total of those that keep the start, ascending."""
    if not is_start(puzzle, start):
        raise InvalidStart(start)
    fillings = fillings_of(puzzle, start)
    totals = [total_of(puzzle, filling) for filling in fillings]
    lowest = min(totals)
    return tuple([filling for filling, total in zip(fillings, totals) if total == lowest])
