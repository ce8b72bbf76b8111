"""Books and puzzles for the tests, ordinary and strange ones, and what is told of them by trying all."""

import itertools
import random

from cutorall.books import Book
from cutorall.prices import Price
from cutorall.puzzles import Puzzle
from tests.strange import rows

LIKE = Price(2, (0, 3, 3, 0))
UNLIKE = Price(2, (1, 0, 0, 1))
RATHER_YES = Price(1, (2, 0))
SKEW = Price(3, (4, -9, 0, 25, 6, -1, 13, 2))
LIKE_THREE = Price(3, (0, 5, 5, 5, 5, 5, 5, 0))


def prices_of(size, amounts):
    """All prices of this size with amounts out of these."""
    return [Price(size, chosen) for chosen in itertools.product(amounts, repeat=2 ** size)]


def any_price(source, size, low, high):
    """Some price of this size with amounts from low to high."""
    return Price(size, [source.randint(low, high) for _ in range(2 ** size)])


def puzzle_over(source, book, cell_count, tie_count):
    """Some puzzle over the book, without ties if it has no cells."""
    ties = []
    for _ in range(tie_count if cell_count else 0):
        price = source.randrange(len(book))
        cells = tuple([source.randrange(cell_count) for _ in range(book.prices[price].size)])
        ties.append((price, cells, source.randint(1, 3)))
    return Puzzle(book, cell_count, ties)


def any_puzzle(source, cell_count, tie_count, low=-4, high=4):
    """Some puzzle over a book with prices of each size, one of a size 2 or 3 that is bent."""
    sizes = [1, 2, 3, source.randint(1, 3)]
    book = Book([any_price(source, size, low, high) for size in sizes] + [LIKE, LIKE_THREE])
    return puzzle_over(source, book, cell_count, tie_count)


def bent_puzzle(source, cell_count, tie_count):
    """Some puzzle over a book whose prices are bent."""
    singles = [any_price(source, 1, -6, 6) for _ in range(2)]
    triple = Price(3, (0, 0, 0, 0, 0, 0, 0, -3))
    lifted = Price(3, (0, 2, 2, 2, 2, 2, 2, 0))
    book = Book(singles + [LIKE, LIKE_THREE, triple, lifted])
    return puzzle_over(source, book, cell_count, tie_count)


def many_puzzles(count, most_cells=5, most_ties=6, seed=7):
    """Some puzzles of few cells and ties, the same ones at each call; some have no cells, some no ties."""
    source = random.Random(seed)
    puzzles = [any_puzzle(source, 0, 0), any_puzzle(source, 3, 0)]
    for number in range(count):
        make = any_puzzle if number % 3 else bent_puzzle
        puzzles.append(make(source, source.randint(0, most_cells), source.randint(0, most_ties)))
    return puzzles


def starts_of(cell_count):
    """All starts of a puzzle of so many cells."""
    starts = []
    for choice in itertools.product((None, 0, 1), repeat=cell_count):
        starts.append(tuple([(cell, value) for cell, value in enumerate(choice) if value is not None]))
    return starts


def some_starts(cell_count, source, count):
    """The empty start, one that fixes every cell, and some others."""
    starts = [(), tuple([(cell, source.randint(0, 1)) for cell in range(cell_count)])]
    for _ in range(count):
        cells = sorted(source.sample(range(cell_count), source.randint(0, cell_count)))
        starts.append(tuple([(cell, source.randint(0, 1)) for cell in cells]))
    return starts


def total(puzzle, filling):
    """The total of the filling, tie by tie."""
    told = 0
    for price, cells, times in puzzle.ties:
        told += times * puzzle.book.prices[price].cost(tuple([filling[cell] for cell in cells]))
    return told


def fillings_that_keep(puzzle, start):
    """All fillings that keep the start, ascending."""
    return [row for row in rows(puzzle.cell_count) if all([row[cell] == value for cell, value in start])]


def cheapest_of(puzzle, start):
    """The least total of the fillings that keep the start, and all of these that have it, by trying all."""
    totals = {filling: total(puzzle, filling) for filling in fillings_that_keep(puzzle, start)}
    least = min(totals.values())
    return least, [filling for filling in totals if totals[filling] == least]


def common(fillings):
    """The pairs (cell, value) that all these fillings have."""
    return tuple([(cell, values[0]) for cell, values in enumerate(zip(*fillings)) if len(set(values)) == 1])


def sum_of_numbers(numbers):
    """The sum whose members are these letters with their numbers, without those of number 0."""
    return tuple(sorted([(letters, number) for letters, number in numbers.items() if number != 0]))


def any_sum(source, letter_count, most_members, most=4):
    """Some sum over so many letters."""
    numbers = {}
    for _ in range(source.randint(0, most_members)):
        letters = tuple(sorted(source.sample(range(letter_count), source.randint(0, min(3, letter_count)))))
        numbers[letters] = source.randint(-most, most)
    return sum_of_numbers(numbers)


def bent_sum(source, letter_count, most_members, most=4):
    """Some sum that is bent, often such that a number more for a pair would be too much."""
    numbers = {}
    for letters, number in any_sum(source, letter_count, most_members, most):
        if len(letters) != 2:
            numbers[letters] = number
    for pair in itertools.combinations(range(letter_count), 2):
        above = [number for letters, number in numbers.items()
                 if len(letters) == 3 and set(pair) <= set(letters) and number > 0]
        numbers[pair] = -sum(above) - source.choice((0, 0, 0, 1, most))
    return sum_of_numbers(numbers)


def worth(told, row):
    """The worth of the sum at the row, member by member."""
    found = 0
    for letters, number in told:
        product = number
        for letter in letters:
            product *= row[letter]
        found += product
    return found


def rising_price(source, size, most):
    """Some price by which a further yes never costs less."""
    costs = {}
    for row in rows(size):
        below = [costs[row[:place] + (0,) + row[place + 1:]] for place in range(size) if row[place] == 1]
        costs[row] = max(below + [-most] * (not below)) + source.choice((0, 0, 1, most))
    return Price(size, list(costs.values()))


def price_of_kind(source, word, size, most=5):
    """Some price of this kind, perhaps of others too; of any kind or none for "any"."""
    if word == "bent":
        told = bent_sum(source, size, 5, most)
        return Price(size, [worth(told, row) for row in rows(size)])
    if word in ("rising", "falling"):
        price = rising_price(source, size, most)
        return price if word == "rising" else price.opposite()
    price = any_price(source, size, -most, most)
    if word == "any":
        return price
    least_at = 0 if word == "all no" else 2 ** size - 1
    amounts = list(price.amounts)
    amounts[least_at] = min(amounts) - source.choice((0, 0, 1))
    return Price(size, amounts)


def book_of_kind(source, word, most=5):
    """Some book of this kind, of one to four prices."""
    return Book([price_of_kind(source, word, source.randint(1, 3), most) for _ in range(source.randint(1, 4))])


def many_books(count, seed=20, most=5):
    """Some books of each kind and others, the same ones at each call."""
    source = random.Random(seed)
    words = ("all no", "all yes", "bent", "rising", "falling", "any", "any")
    return [book_of_kind(source, words[number % 7], source.choice((1, 2, most))) for number in range(count)]


def is_bent_by_rows(told, letter_count):
    """Whether the and and the or of no two rows have together more worth than the two."""
    worths = {row: worth(told, row) for row in rows(letter_count)}
    for one, other in itertools.combinations(rows(letter_count), 2):
        both = tuple([min(here, there) for here, there in zip(one, other)])
        either = tuple([max(here, there) for here, there in zip(one, other)])
        if worths[both] + worths[either] > worths[one] + worths[other]:
            return False
    return True


def cut_rooms(network, values):
    """The rooms of the arcs from a node at yes to one at no."""
    return sum([room for source, target, room in network[2] if values[source] == 1 and values[target] == 0])


def least_cuts(network):
    """The least rooms that a row of the nodes cuts, and the rows that cut just these, by trying all rows."""
    values = [(1, 0) + row for row in rows(network[0] - 2)]
    least = min([cut_rooms(network, row) for row in values])
    return least, [row for row in values if cut_rooms(network, row) == least]
