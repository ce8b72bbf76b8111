"""What is cheapest in a puzzle: the least total, a paper of it, and the cells that are sure."""

from cutorall.basics import rows_of
from cutorall.books import Book
from cutorall.doubled import doubled_of
from cutorall.errors import Undefined
from cutorall.floors import FIXED_VALUES, FREE_VALUES, cheap_values
from cutorall.flows import greatest_flow, least_side
from cutorall.networks import FIRST_LETTER, flow_worth, network_of
from cutorall.puzzles import Puzzle, free_cells, kept, put_in, total_of
from cutorall.sums import is_bent, put_into, sum_of, worths


def _least_bent(told, puzzle, start):
    """The cheapest filling that is yes only where all are, the sum being bent."""
    values = least_side(network_of(told, puzzle.cell_count))
    return kept(start, values[FIRST_LETTER:FIRST_LETTER + puzzle.cell_count])


def _first_of_all(told, puzzle, start):
    """The first of all cheapest fillings, by the worth of every row of the cells that are not fixed."""
    free = free_cells(puzzle, start)
    found = worths(told, free)
    row = rows_of(len(free))[found.index(min(found))]
    pairs = tuple([(cell, value) for cell, value in zip(free, row)])
    return kept(start + pairs, (0,) * puzzle.cell_count)


def _cheap_values(puzzle, start):
    """The kinds of the book by which the other cells may all have one value, each with this value."""
    return cheap_values(puzzle.book, FREE_VALUES if start == () else FIXED_VALUES)


def some_cheapest(puzzle, start=()):
    """Some filling that keeps the start and has the least total of these."""
    told = sum_of(puzzle, start)
    if is_bent(told):
        return _least_bent(told, puzzle, start)
    values = _cheap_values(puzzle, start)
    if len(values) > 0:
        return kept(start, (values[0][1],) * puzzle.cell_count)
    return _first_of_all(told, puzzle, start)


def least_total(puzzle, start=()):
    """The least total of the fillings that keep the start."""
    return total_of(puzzle, some_cheapest(puzzle, start))


def _paper_of_sum(told, letter_count, m):
    """Some paper, of flows alone, that no row is worth less than m, which is so."""
    if is_bent(told):
        return "flow", greatest_flow(network_of(told, letter_count))
    doubled, count = doubled_of(told, letter_count)
    network = network_of(doubled, count)
    flow = greatest_flow(network)
    if network[1] + flow_worth(network, flow) >= 2 * m - 1:
        return "doubled", flow
    # What is not bent has two letters together somewhere, and without such letters it is bent.
    cell = [letters for letters, _ in told if len(letters) > 1][0][0]
    no, yes = [_paper_of_sum(put_into(told, cell, value), letter_count, m) for value in (0, 1)]
    return "split", cell, no, yes


def floor_paper(puzzle, start=()):
    """Some paper that no filling that keeps the start costs less than the least total of these."""
    told = sum_of(puzzle, start)
    values = _cheap_values(puzzle, start)
    if len(values) > 0 and not is_bent(told):
        return "kind", values[0][0]
    return _paper_of_sum(told, puzzle.cell_count, least_total(puzzle, start))


def least_cheapest(puzzle, start=()):
    """The cheapest filling that keeps the start and is yes only where all these are."""
    told = sum_of(puzzle, start)
    if not is_bent(told):
        raise Undefined("kind")
    return _least_bent(told, puzzle, start)


def greatest_cheapest(puzzle, start=()):
    """The cheapest filling that keeps the start and is no only where all these are."""
    if not is_bent(sum_of(puzzle, start)):
        raise Undefined("kind")
    # Where yes and no are exchanged throughout, it is the least one.
    prices = [price.opposite() for price in puzzle.book.prices]
    exchanged = Puzzle(Book(prices), puzzle.cell_count, puzzle.ties)
    opposite = least_cheapest(exchanged, tuple([(cell, 1 - value) for cell, value in start]))
    return tuple([1 - value for value in opposite])


def sure_cells(puzzle, start=()):
    """The start of all pairs (cell, value) that are so in all cheapest fillings that keep the start."""
    filling = some_cheapest(puzzle, start)
    total = total_of(puzzle, filling)
    pairs = start
    for cell in free_cells(puzzle, start):
        if least_total(puzzle, put_in(start, cell, 1 - filling[cell])) > total:
            pairs = put_in(pairs, cell, filling[cell])
    return pairs
