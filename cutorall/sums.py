"""Sums: numbers for sets of at most three letters, and what puzzles and prices cost told by them."""

from cutorall.basics import is_integer, is_number_below, is_size, rows_of
from cutorall.errors import InvalidNumber, InvalidStart, InvalidSum
from cutorall.prices import Price
from cutorall.puzzles import is_start

MOST_LETTERS = 3


def _is_rising(members):
    """Whether each member is above the one ahead of it."""
    return all([one < other for one, other in zip(members, members[1:])])


def _are_letters(value, letter_count):
    """Whether value is a rising tuple of at most three letters."""
    if not isinstance(value, tuple) or len(value) > MOST_LETTERS:
        return False
    return all([is_number_below(letter, letter_count) for letter in value]) and _is_rising(value)


def _is_member(value, letter_count):
    """Whether value is a pair of letters and a number."""
    if not isinstance(value, tuple) or len(value) != 2:
        return False
    return _are_letters(value[0], letter_count) and is_integer(value[1]) and value[1] != 0


def is_sum(value, letter_count):
    """Whether value is a sum over so many letters."""
    if not isinstance(value, tuple) or not all([_is_member(member, letter_count) for member in value]):
        return False
    return _is_rising([member[0] for member in value])


def sum_from(numbers):
    """The sum whose members are the letters of the dict with their numbers, but those that are 0."""
    return tuple([(letters, numbers[letters]) for letters in sorted(numbers) if numbers[letters] != 0])


def add_to(numbers, letters, number):
    """Adds the number to what the dict has for these letters."""
    numbers[letters] = numbers.get(letters, 0) + number


def worth_at(told, row):
    """The worth of the sum at a row that has all its letters."""
    return sum([number for letters, number in told if all([row[letter] == 1 for letter in letters])])


def added(one, other):
    """The sum whose worth is always that of both together."""
    numbers = {}
    for letters, number in one + other:
        add_to(numbers, letters, number)
    return sum_from(numbers)


def sum_of_price(price):
    """The sum over the places of the price whose worth is what it costs."""
    numbers = {}
    for row in rows_of(price.size):
        letters = tuple([place for place, value in enumerate(row) if value == 1])
        # The rows with fewer yes of these come earlier, so their numbers are told already.
        add_to(numbers, letters, price.cost(row) - worth_at(sum_from(numbers), row))
    return sum_from(numbers)


def _letters_left(letters, cells, fixed):
    """The cells at these places that are not fixed, rising, or None if one of the cells is fixed at no."""
    found = [cells[letter] for letter in letters]
    if any([fixed.get(cell, 1) == 0 for cell in found]):
        return None
    return tuple(sorted(set([cell for cell in found if cell not in fixed])))


def sum_of(puzzle, start=()):
    """The sum over the cells that are not fixed whose worth is the total of each filling that keeps the start."""
    if not is_start(puzzle, start):
        raise InvalidStart(start)
    fixed = {cell: value for cell, value in start}
    by_price = [sum_of_price(price) for price in puzzle.book.prices]
    numbers = {}
    for price, cells, times in puzzle.ties:
        for letters, number in by_price[price]:
            left = _letters_left(letters, cells, fixed)
            if left is not None:
                add_to(numbers, left, times * number)
    return sum_from(numbers)


def put_into(told, letter, value):
    """The sum over the other letters that is worth at each row what told is worth with the letter at the value."""
    numbers = {}
    for letters, number in told:
        if value == 1 or letter not in letters:
            add_to(numbers, tuple([other for other in letters if other != letter]), number)
    return sum_from(numbers)


def worths(told, letters):
    """The worth at each row of values of these letters, which are all that the sum has, rows ascending."""
    bits = {letter: 1 << place for place, letter in enumerate(reversed(letters))}
    found = [0] * (1 << len(letters))
    for members, number in told:
        found[sum([bits[letter] for letter in members])] += number
    # Letter by letter, a row with yes gets what the row with no there has: in the end that of all rows below it.
    for bit in list(bits.values()):
        for row in range(len(found)):
            if row & bit != 0:
                found[row] += found[row ^ bit]
    return found


def price_of(told, size):
    """The price whose rows cost what the sum over size letters is worth at them."""
    if not is_size(size):
        raise InvalidNumber(size)
    if not is_sum(told, size):
        raise InvalidSum(told)
    return Price(size, [worth_at(told, row) for row in rows_of(size)])


def pairs_of(letters):
    """The pairs of these letters, each of two that rise, ascending."""
    return tuple([(one, other) for one in letters for other in letters if one < other])


def is_bent(told):
    """Whether for each two letters their number and those above 0 of triples with both are at most 0."""
    most = {}
    for letters, number in told:
        if len(letters) == 2 or (len(letters) == 3 and number > 0):
            for pair in pairs_of(letters):
                add_to(most, pair, number)
    return all([number <= 0 for number in list(most.values())])
