"""Sums without triples, the doubled sums of puzzles, which are always bent, and the cells that these settle."""

from cutorall.errors import InvalidSum
from cutorall.flows import least_side
from cutorall.networks import FIRST_LETTER, network_of
from cutorall.sums import add_to, is_sum, pairs_of, sum_from, sum_of


def _add_triple_by_pairs(numbers, letters, number, helper):
    """Adds what stands for the triple: pairs of its letters and the further letter helper."""
    if number < 0:
        for letter in letters:
            add_to(numbers, (letter, helper), number)
        add_to(numbers, (helper,), -2 * number)
    else:
        for pair in pairs_of(letters):
            add_to(numbers, pair, number)
        for letter in letters:
            add_to(numbers, (letter, helper), -number)
        add_to(numbers, (helper,), number)


def paired_sum(told, letter_count):
    """The pair (paired, count): the sum with a further letter in the place of each triple, and its letters."""
    if not is_sum(told, letter_count):
        raise InvalidSum(told)
    numbers = {}
    count = letter_count
    for letters, number in told:
        if len(letters) == 3:
            _add_triple_by_pairs(numbers, letters, number, count)
            count += 1
        else:
            add_to(numbers, letters, number)
    return sum_from(numbers), count


def _add_letter_twice(numbers, letter, number):
    """Adds what stands for twice the number of a letter alone."""
    add_to(numbers, (2 * letter,), number)
    add_to(numbers, (2 * letter + 1,), -number)
    add_to(numbers, (), number)


def _add_pair_twice(numbers, one, other, number):
    """Adds what stands for twice the number of a pair of letters, only numbers below 0 for pairs."""
    if number < 0:
        add_to(numbers, (2 * one, 2 * other), number)
        add_to(numbers, (2 * one + 1, 2 * other + 1), number)
        add_to(numbers, (2 * one + 1,), -number)
        add_to(numbers, (2 * other + 1,), -number)
        add_to(numbers, (), number)
    else:
        add_to(numbers, (2 * one,), number)
        add_to(numbers, (2 * other,), number)
        add_to(numbers, (2 * one, 2 * other + 1), -number)
        add_to(numbers, (2 * one + 1, 2 * other), -number)


def doubled_of(told, letter_count):
    """The pair (doubled, count): twice the paired sum, each letter v of which stands for 2 v and its opposite."""
    paired, count = paired_sum(told, letter_count)
    numbers = {}
    for letters, number in paired:
        if len(letters) == 0:
            add_to(numbers, (), 2 * number)
        elif len(letters) == 1:
            _add_letter_twice(numbers, letters[0], number)
        else:
            _add_pair_twice(numbers, letters[0], letters[1], number)
    return sum_from(numbers), 2 * count


def doubled_sum(puzzle, start=()):
    """The pair (doubled, count) of the sum of the puzzle and the start."""
    # What is no start is told by sum_of.
    return doubled_of(sum_of(puzzle, start), puzzle.cell_count)


def settled(puzzle, start=()):
    """The pairs (cell, value) whose values make any filling that keeps the start and lacks one of them cheaper."""
    doubled, count = doubled_sum(puzzle, start)
    values = least_side(network_of(doubled, count))
    pairs = []
    # A fixed cell is no letter of the sum, so its nodes have no arcs and are never yes.
    for cell in range(puzzle.cell_count):
        if values[FIRST_LETTER + 2 * cell] == 1:
            pairs.append((cell, 1))
        if values[FIRST_LETTER + 2 * cell + 1] == 1:
            pairs.append((cell, 0))
    return tuple(pairs)
