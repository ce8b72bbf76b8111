"""Floors: papers that no filling that keeps a start costs less than an integer, and the judge of them."""

from cutorall.basics import is_integer, is_number_below
from cutorall.doubled import doubled_of
from cutorall.errors import InvalidNumber
from cutorall.kinds import is_kind
from cutorall.networks import flow_worth, network_of
from cutorall.sums import is_bent, put_into, sum_of, worth_at

# For each kind the value that every cell may have at a least total: without a start, and with any start.
FREE_VALUES = (("all no", 0), ("all yes", 1))
FIXED_VALUES = (("rising", 0), ("falling", 1))


def cheap_values(book, values):
    """Those of the pairs (word, value) whose kind the book is of."""
    return tuple([(word, value) for word, value in values if is_kind(book, word)])


def _reaches(network, flow, m):
    """Whether flow, any value at all, is a flow that shows that no row is worth less than m."""
    worth = flow_worth(network, flow)
    return worth is not None and network[1] + worth >= m


def _kind_reaches(told, letter_count, values, word, m):
    """Whether word, any value at all, is one of these kinds and the worth of its row is at least m."""
    return any([word == kind and worth_at(told, (value,) * letter_count) >= m for kind, value in values])


def _leaf_holds(told, letter_count, values, m, paper):
    """Whether paper, any value at all, is one that splits nothing and holds for a sum with these kinds."""
    if not isinstance(paper, tuple) or len(paper) != 2:
        return False
    form, shown = paper
    if form == "kind":
        return _kind_reaches(told, letter_count, values, shown, m)
    if form == "flow":
        return is_bent(told) and _reaches(network_of(told, letter_count), shown, m)
    if form == "doubled":
        doubled, count = doubled_of(told, letter_count)
        return _reaches(network_of(doubled, count), shown, 2 * m - 1)
    return False


def _is_split(paper, letter_count, fixed):
    """Whether paper, any value at all, splits at a cell that is not fixed."""
    if not isinstance(paper, tuple) or len(paper) != 4 or paper[0] != "split":
        return False
    return is_number_below(paper[1], letter_count) and paper[1] not in fixed


def floor_holds(puzzle, start, m, paper):
    """Whether paper is one that no filling that keeps the start has a total below m."""
    told = sum_of(puzzle, start)
    if not is_integer(m):
        raise InvalidNumber(m)
    fixed_values = cheap_values(puzzle.book, FIXED_VALUES)
    free_values = cheap_values(puzzle.book, FREE_VALUES) + fixed_values
    # Each part of the paper waits with the sum that is left and the cells that are fixed where it stands.
    waiting = [(paper, told, [cell for cell, _ in start])]
    while len(waiting) > 0:
        part, left, fixed = waiting.pop()
        if _is_split(part, puzzle.cell_count, fixed):
            _, cell, *sides = part
            for value, side in enumerate(sides):
                waiting.append((side, put_into(left, cell, value), fixed + [cell]))
        else:
            values = free_values if len(fixed) == 0 else fixed_values
            if not _leaf_holds(left, puzzle.cell_count, values, m, part):
                return False
    return True
