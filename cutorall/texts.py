"""Texts: puzzles written down, a line for each price, for the cells and for each tie."""

from cutorall.basics import is_number
from cutorall.books import Book
from cutorall.errors import InvalidPrice, InvalidText
from cutorall.prices import Price
from cutorall.puzzles import Puzzle, is_tie

FIGURES = "0123456789"
MOST_FIGURES = 40
MOST_PRICES = 6


def _joined(numbers):
    """The integers by figures, joined by commas."""
    return ",".join([str(number) for number in numbers])


def write_puzzle(puzzle):
    """The text of the puzzle."""
    lines = [f"price {price.size} {_joined(price.amounts)}" for price in puzzle.book.prices]
    lines.append(f"cells {puzzle.cell_count}")
    lines.extend([f"tie {price} {_joined(cells)} {times}" for price, cells, times in puzzle.ties])
    return "\n".join(lines)


def read_integer(word):
    """The integer that the word is, by figures without a needless 0, or None."""
    figures = word.removeprefix("-")
    if not 1 <= len(figures) <= MOST_FIGURES or not all([sign in FIGURES for sign in figures]):
        return None
    # Of the words with a 0 ahead, "0" alone is an integer: "-0" and "00" are none.
    if figures.startswith("0") and word != "0":
        return None
    return int(word)


def _read_integers(word):
    """What is read between the commas, None for each part that is no integer."""
    return tuple([read_integer(part) for part in word.split(",")])


def _read_price(line):
    """The price that the line tells, or None."""
    words = line.split(" ")
    if len(words) != 3 or words[0] != "price":
        return None
    try:
        return Price(read_integer(words[1]), _read_integers(words[2]))
    except InvalidPrice:
        return None


def _read_cells(line):
    """The number of cells that the line tells, or None."""
    words = line.split(" ")
    if len(words) != 2 or words[0] != "cells":
        return None
    count = read_integer(words[1])
    return count if is_number(count) else None


def _read_tie(line):
    """The triple that the line tells, with None for each part that is no integer, or None."""
    words = line.split(" ")
    if len(words) != 4 or words[0] != "tie":
        return None
    return read_integer(words[1]), _read_integers(words[2]), read_integer(words[3])


def lines_of(text):
    """For each line the pair of the place at which it begins and the line."""
    lines = []
    at = 0
    for line in text.split("\n"):
        lines.append((at, line))
        at += len(line) + 1
    return lines


def read_head(text):
    """The book and the number of cells that the text begins with, and the pairs of lines_of behind these."""
    lines = lines_of(text)
    prices = []
    for number, (at, line) in enumerate(lines):
        price = _read_price(line)
        if price is not None and len(prices) < MOST_PRICES:
            prices.append(price)
            continue
        cell_count = _read_cells(line)
        if cell_count is None or len(prices) == 0:
            raise InvalidText(text, at)
        return Book(prices), cell_count, lines[number + 1:]
    raise InvalidText(text, len(text))


def read_puzzle(text):
    """The puzzle whose text this is."""
    book, cell_count, lines = read_head(text)
    ties = []
    for at, line in lines:
        tie = _read_tie(line)
        if not is_tie(tie, book, cell_count):
            raise InvalidText(text, at)
        ties.append(tie)
    return Puzzle(book, cell_count, ties)
