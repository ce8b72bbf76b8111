"""Carried puzzles: any puzzle told in the prices of a book whose side is all."""

from cutorall.books import Book
from cutorall.doubled import paired_sum
from cutorall.errors import InvalidBook, InvalidFilling, InvalidPuzzle, Undefined
from cutorall.puzzles import Puzzle, is_filling, kept, total_of
from cutorall.sides import side
from cutorall.sums import add_to, sum_from, sum_of
from cutorall.unlike import NO, YES, Alike, is_mirrored, laid, spread

# The cells NO and YES stand ahead of those of the letters of the paired sum, and opposites behind these.
FIRST_CELL = 2


def _exchanged(paired, cell_count):
    """The paired sum with each further letter standing for its opposite: so its pairs have numbers above 0."""
    numbers = {}
    for letters, number in paired:
        if len(letters) > 0 and letters[-1] >= cell_count:
            add_to(numbers, letters[:-1], number)
            add_to(numbers, letters, -number)
        else:
            add_to(numbers, letters, number)
    return sum_from(numbers)


def _opposed(told):
    """Letters of which each pair with a number below 0 has one, rising."""
    found = []
    for letters, number in told:
        if len(letters) == 2 and number < 0 and letters[0] not in found and letters[1] not in found:
            found.append(letters[1])
    return sorted(found)


def _cell(letter):
    """The cell of the letter."""
    return FIRST_CELL + letter


def _weights(told, opposites):
    """For pairs of cells what is to be paid where they are alike, so that this and a constant are twice the worth.

    Twice the product of two values is their sum, less 1, and 1 more where they are alike. Opposites are the
    cells that are unlike the cells of the letters.
    """
    weights = {}
    singles = {}
    for letters, number in told:
        for letter in letters:
            add_to(singles, letter, 2 * number if len(letters) == 1 else number)
        if len(letters) < 2:
            continue
        one, other = letters
        if number > 0:
            add_to(weights, (_cell(one), _cell(other)), number)
        elif other in opposites:
            add_to(weights, (_cell(one), opposites[other]), -number)
        else:
            add_to(weights, (opposites[one], _cell(other)), -number)
    for letter in singles:
        # A yes costs as much as being alike to YES does, a number below 0 is won by it, not paid alike to NO.
        add_to(weights, (YES if singles[letter] > 0 else NO, _cell(letter)), abs(singles[letter]))
    return weights


class Carried:
    """A puzzle over the book that costs at least factor times what it reads in the first one, and amount."""

    def __init__(self, puzzle, book, *, fixed=False):
        if not isinstance(puzzle, Puzzle):
            raise InvalidPuzzle("puzzle", 0)
        if not isinstance(book, Book):
            raise InvalidBook(book)
        if side(book, fixed=fixed) != ("all",):
            raise Undefined("kind")
        told = sum_of(puzzle)
        paired, letter_count = paired_sum(told, puzzle.cell_count)
        paired = _exchanged(paired, puzzle.cell_count)
        alike = Alike(book, fixed)
        self.first = puzzle
        self.start = ((NO, 0), (YES, 1)) if fixed else ()
        self.cells = tuple([_cell(letter) for letter in range(puzzle.cell_count)])
        self.against = NO if not fixed and is_mirrored(book) else None
        self._triples = tuple([letters for letters, _ in told if len(letters) == 3])
        self._opposed = tuple(_opposed(paired))
        self.puzzle = self._puzzle_of(paired, letter_count, alike)
        self.factor = 2 * alike.penalty
        noughts = (0,) * puzzle.cell_count
        self.amount = total_of(self.puzzle, self.on(noughts)) - self.factor * total_of(puzzle, noughts)

    def _puzzle_of(self, paired, letter_count, alike):
        """The puzzle that pays for alike cells, with ties that make nothing cheaper where opposites are not."""
        opposites = {letter: _cell(letter_count + number) for number, letter in enumerate(self._opposed)}
        weights = _weights(paired, opposites)
        ties = ()
        for one, other in sorted(weights):
            if weights[one, other] != 0:
                ties += laid(alike.parting, (NO, YES, one, other), weights[one, other])
        pairs = [(_cell(letter), opposites[letter]) for letter in self._opposed]
        if self.against is not None:
            pairs.append((NO, YES))
        times = spread(alike.book, ties) // alike.penalty + 1
        for one, other in pairs:
            ties += laid(alike.parting, (NO, YES, one, other), times)
        return Puzzle(alike.book, _cell(letter_count + len(opposites)), alike.forced(ties) + ties)

    def read(self, filling):
        """The filling of the first puzzle that the filling of the puzzle is read as."""
        if not is_filling(self.puzzle, filling) or kept(self.start, filling) != filling:
            raise InvalidFilling(filling)
        no = 0 if self.against is None else filling[self.against]
        return tuple([0 if filling[cell] == no else 1 for cell in self.cells])

    def on(self, filling):
        """Some filling of the puzzle that is read as this one of the first, at its cost."""
        if not is_filling(self.first, filling):
            raise InvalidFilling(filling)
        # A further letter is best at yes where most of its triple are, and its cell has the opposite.
        further = [0 if sum([filling[letter] for letter in letters]) >= 2 else 1 for letters in self._triples]
        opposite = [1 - filling[letter] for letter in self._opposed]
        return (0, 1) + filling + tuple(further) + tuple(opposite)
