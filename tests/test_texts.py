"""Point [9] and "cutorall/texts.py" in the interface."""

import inspect
import random
import re
import unittest

from cutorall import texts
from cutorall.books import Book
from cutorall.errors import InvalidText
from cutorall.prices import Price
from cutorall.puzzles import Puzzle
from cutorall.texts import read_puzzle, write_puzzle
from tests.cases import Case
from tests.samples import LIKE, RATHER_YES, SKEW, many_puzzles

TEXT = """price 2 0,3,3,0
price 1 2,0
price 3 4,-9,0,25,6,-1,13,2
cells 3
tie 0 0,1 1
tie 1 2 3
tie 2 2,0,2 20"""

# How many lines of the text are ahead of its cells line.
PRICE_LINES = 3


def ordinary():
    return Puzzle(Book([LIKE, RATHER_YES, SKEW]), 3, [(0, (0, 1), 1), (1, (2,), 3), (2, (2, 0, 2), 20)])


def place_of(text, number):
    """The place at which the line of this number begins."""
    return sum([len(line) + 1 for line in text.split("\n")[:number]])


def with_line(number, line):
    """The text with this line in the place of that number."""
    lines = TEXT.split("\n")
    lines[number] = line
    return "\n".join(lines)


INTEGER = "(?:0|-?[1-9][0-9]{0,39})"
PRICE_LINE = re.compile(f"price ([123]) ({INTEGER}(?:,{INTEGER})*)")
CELLS_LINE = re.compile("cells (0|[1-9][0-9]{0,39})")
TIE_LINE = re.compile(f"tie ([0-5]) ({INTEGER}(?:,{INTEGER})*) ([1-9][0-9]{{0,39}})")


def wrong_place(text):
    """The place that [9] tells of a text that is none of a puzzle, None if it is one."""
    sizes, cells = [], None
    for number, line in enumerate(text.split("\n")):
        price, count, tie = [form.fullmatch(line) for form in (PRICE_LINE, CELLS_LINE, TIE_LINE)]
        right = False
        if cells is None and price and len(sizes) < 6:
            sizes.append(int(price[1]))
            right = len(price[2].split(",")) == 2 ** sizes[-1]
        elif cells is None and count and sizes:
            cells, right = int(count[1]), True
        elif cells is not None and tie and int(tie[1]) < len(sizes):
            told = [int(word) for word in tie[2].split(",")]
            right = len(told) == sizes[int(tie[1])] and all([0 <= cell < cells for cell in told])
        if not right:
            return place_of(text, number)
    return len(text) if cells is None else None


class TextCase(Case):

    def assert_invalid(self, text, at):
        self.assert_error(InvalidText, {"text": text, "at": at}, read_puzzle, text)
        made = self.assert_error(InvalidText, {"text": text, "at": at}, read_puzzle, text=text)
        self.assertIs(made.text, text)
        self.assertIs(type(made.at), int)
        self.assertEqual(wrong_place(text), at)

    def assert_wrong_line(self, number, line):
        text = with_line(number, line)
        self.assert_invalid(text, place_of(text, number))

    def assert_right(self, text):
        puzzle = read_puzzle(text)
        self.assertIs(type(puzzle), Puzzle)
        self.assertEqual(write_puzzle(puzzle), text)
        self.assertIsNone(wrong_place(text))
        return puzzle


class WriteTest(TextCase):

    def test_interface(self):
        for name, parameters in {"write_puzzle": ["puzzle"], "read_puzzle": ["text"]}.items():
            function = getattr(texts, name)
            self.assertEqual(function.__module__, "cutorall.texts")
            self.assertEqual(list(inspect.signature(function).parameters), parameters)

    def test_ordinary(self):
        self.assertEqual(write_puzzle(ordinary()), TEXT)
        self.assertEqual(write_puzzle(puzzle=ordinary()), TEXT)
        self.assertIs(type(write_puzzle(ordinary())), str)

    def test_without_cells_and_ties(self):
        self.assertEqual(write_puzzle(Puzzle(Book([RATHER_YES]), 0, ())), "price 1 2,0\ncells 0")
        self.assertEqual(write_puzzle(Puzzle(Book([RATHER_YES]), 30, ())), "price 1 2,0\ncells 30")

    def test_amounts_below_nought_and_forty_figures(self):
        most = int("9" * 40)
        puzzle = Puzzle(Book([Price(1, (-most, most))]), 1, [(0, (0,), most)])
        self.assertEqual(write_puzzle(puzzle), f"price 1 -{most},{most}\ncells 1\ntie 0 0 {most}")

    def test_no_line_feed_at_the_end(self):
        for puzzle in many_puzzles(20):
            text = write_puzzle(puzzle)
            self.assertFalse(text.endswith("\n"))
            self.assertEqual(len(text.split("\n")), len(puzzle.book) + 1 + len(puzzle.ties))


class ReadTest(TextCase):

    def test_ordinary(self):
        self.assertEqual(read_puzzle(TEXT), ordinary())
        self.assertEqual(read_puzzle(text=TEXT), ordinary())
        self.assert_same(read_puzzle(TEXT).ties, ordinary().ties)
        self.assert_same(read_puzzle(TEXT).book.prices[2].amounts, SKEW.amounts)

    def test_what_is_written_is_read(self):
        for puzzle in many_puzzles(60):
            self.assertEqual(self.assert_right(write_puzzle(puzzle)), puzzle)

    def test_books_of_one_and_of_six_prices(self):
        for count in range(1, 7):
            text = "price 1 0,1\n" * count + "cells 2\ntie " + str(count - 1) + " 1 5"
            self.assertEqual(len(self.assert_right(text).book), count)

    def test_a_seventh_price(self):
        text = "price 1 0,1\n" * 7 + "cells 2"
        self.assert_invalid(text, 6 * len("price 1 0,1\n"))
        self.assert_invalid("price 1 0,1\n" * 6 + "price 1 0,1", 6 * len("price 1 0,1\n"))
        self.assert_invalid("price 1 0,1\n" * 9, 6 * len("price 1 0,1\n"))

    def test_without_cells_and_ties(self):
        self.assertEqual(self.assert_right("price 1 2,0\ncells 0"), Puzzle(Book([RATHER_YES]), 0, ()))
        self.assert_invalid("price 1 2,0\ncells 0\ntie 0 0 1", 20)
        self.assert_right("price 1 2,0\ncells 1\ntie 0 0 1")


class LackingTest(TextCase):

    def test_lines_are_lacking(self):
        for count in range(1, 7):
            text = "\n".join(["price 1 0,1"] * count)
            self.assert_invalid(text, len(text))

    def test_empty_texts_and_lines(self):
        self.assert_invalid("", 0)
        self.assert_invalid("\n", 0)
        self.assert_invalid("\n" + TEXT, 0)
        for number in range(7):
            self.assert_wrong_line(number, "")
            lines = TEXT.split("\n")
            lines.insert(number, "")
            self.assert_invalid("\n".join(lines), place_of(TEXT, number))

    def test_a_line_feed_at_the_end(self):
        for count in range(1, 8):
            text = "\n".join(TEXT.split("\n")[:count]) + "\n"
            self.assert_invalid(text, len(text))
            self.assert_invalid(text + "\n", len(text))

    def test_other_line_ends(self):
        self.assert_invalid(TEXT.replace("\n", "\r\n"), 0)
        self.assert_invalid(TEXT.replace("\n", "\r"), 0)
        for sign in "\v\f\x1c\x1d\x1e\x85\u2028\u2029":
            self.assert_invalid(TEXT + sign, place_of(TEXT, 6))
            self.assert_invalid(TEXT.replace("\n", sign), 0)


class PlaceTest(TextCase):

    def test_lines_in_wrong_places(self):
        self.assert_invalid("cells 3", 0)
        self.assert_invalid("cells 3\nprice 1 0,1", 0)
        self.assert_invalid("tie 0 0 1", 0)
        self.assert_invalid("price 1 0,1\ntie 0 0 1\ncells 1", 12)
        self.assert_invalid("price 1 0,1\ncells 1\ncells 1", 20)
        self.assert_invalid("price 1 0,1\ncells 1\nprice 1 0,1", 20)
        self.assert_invalid("price 1 0,1\ncells 1\ntie 0 0 1\ncells 1", 30)

    def test_the_first_wrong_line_is_told(self):
        self.assert_invalid("price 1 0,1\nx\ny", 12)
        self.assert_invalid("x\nprice 1 0,1", 0)
        self.assert_invalid("price 1 0,1\ncells 1\ntie 0 0 1\ntie 0 1 1\ntie 9 9 9", 30)

    def test_wrong_words(self):
        for line in ("Price 2 0,3,3,0", "prices 2 0,3,3,0", "2 0,3,3,0", "price", "price 2", "x", "price2 0,3,3,0"):
            self.assert_wrong_line(0, line)
        for line in ("Cells 3", "cell 3", "3", "cells", "cells3"):
            self.assert_wrong_line(PRICE_LINES, line)
        for line in ("Tie 0 0,1 1", "ties 0 0,1 1", "0 0,1 1", "tie", "tie 0", "tie 0 0,1", "tie0 0,1 1"):
            self.assert_wrong_line(PRICE_LINES + 1, line)

    def test_a_blank_more(self):
        for number, line in enumerate(TEXT.split("\n")):
            for wrong in (" " + line, line + " ", line.replace(" ", "  "), line.replace(" ", "\t"), line + " 1",
                          line.replace(" ", "\u00a0"), line.replace(" ", "")):
                self.assert_wrong_line(number, wrong)
            if "," in line:
                for comma in (" ,", ", ", ",,", ";"):
                    self.assert_wrong_line(number, line.replace(",", comma))
                self.assert_wrong_line(number, line + ",")

    def test_a_wrong_count_of_amounts(self):
        for size in range(0, 5):
            for count in range(0, 18):
                text = f"price {size} " + ",".join(["7"] * count) + "\ncells 0"
                if 1 <= size <= 3 and count == 2 ** size:
                    self.assert_right(text)
                else:
                    self.assert_invalid(text, 0)

    def test_ties_that_are_none_of_the_book(self):
        for line in ("tie 3 0 1", "tie -1 0 1", "tie 0 0 1", "tie 0 0,1,2 1", "tie 0 0,3 1", "tie 0 -1,0 1",
                     "tie 0 0,1 0", "tie 0 0,1 -1", "tie 1 0,1 1", "tie 2 0,1 1", "tie 0  1", "tie 0 , 1"):
            self.assert_wrong_line(PRICE_LINES + 1, line)
        for line in ("tie 0 1,1 1", "tie 1 0 1", "tie 2 2,2,2 1", "tie 0 2,0 1000000"):
            self.assert_right(with_line(PRICE_LINES + 1, line))


class IntegerTest(TextCase):

    def texts_with(self, word):
        """For each place where an integer may stand a text with the word in it, and the place of its line."""
        yield f"price 1 {word},0\ncells 0", 0
        yield f"price 1 0,{word}\ncells 0", 0
        yield f"price {word} 0,0\ncells 0", 0
        yield f"price 1 0,1\ncells {word}", 12
        yield f"price 1 0,1\ncells 2\ntie {word} 0 1", 20
        yield f"price 1 0,1\ncells 2\ntie 0 {word} 1", 20
        yield f"price 1 0,1\ncells 2\ntie 0 0 {word}", 20

    def test_words_that_are_no_integers(self):
        for word in ("", "-", "-0", "00", "01", "-01", "+1", "--1", "1-", "1.0", "1e1", "0x1", "1_0", "_1", "one", "None",
                     "True", "\u0661", "\u00b2", "\uff11", "1\r", "\u22121"):
            for text, at in self.texts_with(word):
                self.assert_invalid(text, at)

    def test_forty_and_forty_one_figures(self):
        for sign in ("", "-"):
            amount = sign + "1" + "0" * 39
            puzzle = self.assert_right(f"price 1 0,{amount}\ncells 1\ntie 0 0 1")
            self.assertEqual(puzzle.book.prices[0].amounts, (0, int(amount)))
            for text, at in self.texts_with(sign + "1" + "0" * 40):
                self.assert_invalid(text, at)
        self.assertEqual(self.assert_right("price 1 0,1\ncells " + "9" * 40).cell_count, int("9" * 40))
        self.assertEqual(self.assert_right("price 1 0,1\ncells 1\ntie 0 0 " + "9" * 40).ties[0][2], int("9" * 40))
        self.assert_invalid("price 1 0,1\ncells 1\ntie 0 0 " + "9" * 5000, 20)

    def test_cells_from_nought_on(self):
        self.assert_invalid("price 1 0,1\ncells -1", 12)
        self.assert_right("price 1 0,1\ncells 0")

    def test_figures_ahead_and_signs(self):
        self.assertEqual(self.assert_right("price 1 -1,0\ncells 10").book.prices[0].amounts, (-1, 0))
        self.assertEqual(self.assert_right("price 1 100,-10\ncells 10").book.prices[0].amounts, (100, -10))


class ManyTextsTest(TextCase):

    def test_texts_that_are_changed_a_little(self):
        source = random.Random(11)
        found = {True: 0, False: 0}
        for _ in range(4000):
            text = TEXT if source.random() < 0.5 else "price 1 -1,10\ncells 2\ntie 0 0 1"
            for _ in range(source.randint(1, 2)):
                at = source.randrange(len(text) + 1)
                text = text[:at] + source.choice(["", *"0123,- \npct"]) + text[at + source.randint(0, 1):]
            at = wrong_place(text)
            found[at is None] += 1
            if at is None:
                self.assert_right(text)
            else:
                self.assert_invalid(text, at)
        self.assertGreater(min(found.values()), 200)

    def test_two_hundred_thousand_signs(self):
        text = "price 1 0,1\ncells 2" + "\ntie 0 1 7" * 18000
        self.assertEqual(len(read_puzzle(text).ties), 18000)
        self.assert_invalid(text + "\n", len(text) + 1)
        self.assert_invalid("price 3 " + "0," * 100000, 0)
        self.assert_invalid("\n" * 200000, 0)
        self.assert_invalid(" " * 200000, 0)

    def test_equal_calls_return_equal_results(self):
        self.assertEqual(read_puzzle(TEXT), read_puzzle("".join(list(TEXT))))
        self.assertEqual(write_puzzle(ordinary()), write_puzzle(ordinary()))


if __name__ == "__main__":
    unittest.main()
