"""The price of unlike, two alike cells costing more than two unlike ones, written by a book whose side is all."""

from cutorall.alike import NO, ONE, OTHER, SPOT_COUNT, YES, Alike
from cutorall.errors import Undefined
from cutorall.puzzles import Puzzle
from cutorall.sides import side
from cutorall.writing import written_price


def unlike_puzzle(book, *, fixed=False):
    """Some tuple (puzzle, start, cells, amount, penalty): the price of unlike that the puzzle writes at the cells."""
    if side(book, fixed=fixed) != ("all",):
        raise Undefined("kind")
    alike = Alike(book, fixed)
    puzzle = Puzzle(book, SPOT_COUNT, alike.forced(alike.parting) + alike.parting)
    start = ((NO, 0), (YES, 1)) if fixed else ()
    price = written_price(puzzle, (ONE, OTHER), start)
    amount = price.cost((0, 1))
    return puzzle, start, (ONE, OTHER), amount, price.cost((0, 0)) - amount
