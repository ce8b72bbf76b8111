"""Point [11] and "cutorall/sides.py" in the interface."""

import inspect
import itertools
import unittest

from cutorall import sides
from cutorall.books import Book
from cutorall.kinds import fault_of
from cutorall.prices import Price
from cutorall.sides import side, side_holds, side_paper
from tests.cases import Case, is_plain_throughout
from tests.samples import LIKE, RATHER_YES, UNLIKE
from tests.strange import AlwaysEqual, any_values, rows
from tests.test_kinds import WORDS, all_faults, books, shows

FREE = ("all no", "all yes", "bent")
FIXED = ("rising", "falling", "bent")


def words_of(fixed):
    return FIXED if fixed else FREE


def right_side(book, fixed):
    """The side of the book, told as [11] tells it."""
    kinds = tuple([word for word in words_of(fixed) if not all_faults(book, word)])
    return ("cut", kinds) if kinds else ("all",)


def as_list(value, depth):
    """The value with the tuples at this depth turned into lists."""
    if type(value) is not tuple:
        return value
    members = [as_list(member, depth - 1) for member in value]
    return members if depth == 0 else tuple(members)


def all_showing(book, word):
    """All that shows that the book is not of the kind: faults at any price and rows, "bent" in either order."""
    found = all_faults(book, word)
    return found + [(fault[0], fault[2], fault[1]) for fault in found if word == "bent"]


def anything_like(book, word):
    """All tuples of the form of a fault, whether they show anything or not."""
    found = []
    for number, price in enumerate(book.prices):
        many = 1 if word in ("all no", "all yes") else 2
        found.extend([(number,) + told for told in itertools.product(rows(price.size), repeat=many)])
    return found


class SideTest(Case):

    def test_interface(self):
        functions = {"side": ["book", "fixed"], "side_paper": ["book", "fixed"],
                     "side_holds": ["book", "claim", "paper", "fixed"]}
        for name, parameters in functions.items():
            function = getattr(sides, name)
            told = inspect.signature(function).parameters
            self.assertEqual(function.__module__, "cutorall.sides")
            self.assertEqual(list(told), parameters)
            self.assertIs(told["fixed"].default, False)
            self.assertIs(told["fixed"].kind, inspect.Parameter.KEYWORD_ONLY)

    def test_fixed_by_name_alone(self):
        book = Book([LIKE])
        for call in (lambda: side(book, True), lambda: side_paper(book, True),
                     lambda: side_holds(book, ("all",), (), True)):
            with self.assertRaises(TypeError):
                call()

    def test_ordinary(self):
        self.assert_same(side(Book([LIKE, RATHER_YES])), ("cut", ("all yes", "bent")))
        self.assert_same(side(Book([UNLIKE])), ("all",))
        self.assert_same(side(Book([UNLIKE, RATHER_YES])), ("all",))
        self.assert_same(side(Book([LIKE, RATHER_YES]), fixed=True), ("cut", ("bent",)))
        self.assert_same(side(book=Book([RATHER_YES]), fixed=True), ("cut", ("falling", "bent")))
        self.assert_same(side(Book([Price(1, (0, 0))]), fixed=True), ("cut", FIXED))
        self.assert_same(side(Book([Price(1, (0, 0))])), ("cut", FREE))

    def test_all_no_alone_is_a_cut_only_with_no_cell_fixed(self):
        book = Book([Price(3, (0, 1, 1, 3, 1, 3, 3, 2))])
        self.assert_same(side(book, fixed=False), ("cut", ("all no",)))
        self.assert_same(side(book, fixed=True), ("all",))

    def test_many_books(self):
        for book in books():
            for fixed in (False, True):
                self.assert_same(side(book, fixed=fixed), right_side(book, fixed))
            self.assertEqual(side(book), side(book, fixed=False))


class PaperTest(Case):

    def test_ordinary(self):
        self.assert_same(side_paper(Book([LIKE])), ())
        self.assert_same(side_paper(Book([UNLIKE])), ((0, (0, 1)), (0, (0, 1)), (0, (0, 1), (1, 0))))
        paper = ((0, (0, 0), (0, 1)), (0, (0, 1), (1, 1)), (0, (0, 1), (1, 0)))
        self.assert_same(side_paper(Book([UNLIKE]), fixed=True), paper)

    def test_many_books(self):
        for book in books():
            for fixed in (False, True):
                paper = side_paper(book, fixed=fixed)
                if right_side(book, fixed) == ("all",):
                    self.assert_same(paper, tuple([fault_of(book, word) for word in words_of(fixed)]))
                else:
                    self.assert_same(paper, ())
            self.assertEqual(side_paper(book=book), side_paper(book, fixed=False))


class HoldsTest(Case):

    def test_own_papers_hold(self):
        for book in books():
            for fixed in (False, True):
                claim, paper = side(book, fixed=fixed), side_paper(book, fixed=fixed)
                self.assertIs(side_holds(book, claim, paper, fixed=fixed), True)
                self.assertIs(side_holds(book=book, claim=claim, paper=paper, fixed=fixed), True)
            self.assertIs(side_holds(book, side(book), side_paper(book)), True)

    def test_other_claims_do_not_hold(self):
        claims = [("all",)]
        for count in range(4):
            for words in itertools.permutations(FREE, count):
                claims.append(("cut", words))
            for words in itertools.permutations(FIXED, count):
                claims.append(("cut", words))
        for book in books()[::9]:
            for fixed in (False, True):
                right = side(book, fixed=fixed)
                for claim in claims:
                    for paper in ((), side_paper(book, fixed=fixed)):
                        holds = claim == right and (paper == side_paper(book, fixed=fixed))
                        self.assertIs(side_holds(book, claim, paper, fixed=fixed), holds)

    def test_all_rows_that_show_it_hold(self):
        for book in books()[::23]:
            for fixed in (False, True):
                if right_side(book, fixed) != ("all",):
                    continue
                own = side_paper(book, fixed=fixed)
                for place, word in enumerate(words_of(fixed)):
                    right = all_showing(book, word)
                    for told in anything_like(book, word):
                        paper = own[:place] + (told,) + own[place + 1:]
                        self.assertIs(side_holds(book, ("all",), paper, fixed=fixed), told in right)

    def test_another_price_and_other_rows(self):
        book = Book([LIKE, UNLIKE, UNLIKE])
        for price in (1, 2):
            for one, other in (((0, 1), (1, 0)), ((1, 0), (0, 1))):
                for row in ((0, 1), (1, 0)):
                    paper = ((price, row), (1, row), (price, one, other))
                    self.assertIs(side_holds(book, ("all",), paper), True)
        wrong = ((1, (0, 1)), (1, (0, 1)), (0, (0, 1), (1, 0)))
        self.assertIs(side_holds(book, ("all",), wrong), False)

    def test_rising_and_falling_in_their_order_only(self):
        book = Book([UNLIKE])
        rising, falling, bent = (0, (0, 0), (0, 1)), (0, (0, 1), (1, 1)), (0, (0, 1), (1, 0))
        self.assertTrue(side_holds(book, ("all",), (rising, falling, bent), fixed=True))
        self.assertTrue(side_holds(book, ("all",), ((0, (0, 0), (1, 0)), falling, bent[:1] + bent[:0:-1]), fixed=True))
        for paper in ((falling, rising, bent), (rising[:1] + rising[:0:-1], falling, bent), (rising, rising, bent),
                      (rising, falling[:1] + falling[:0:-1], bent), (falling, falling, bent)):
            self.assertIs(side_holds(book, ("all",), paper, fixed=True), False)

    def test_two_further_yes_show_nothing(self):
        book = Book([Price(2, (5, 6, 7, 0)), UNLIKE])
        bent = (1, (0, 1), (1, 0))
        falling = (0, (0, 0), (0, 1))
        self.assertIs(side_holds(book, ("all",), ((0, (0, 1), (1, 1)), falling, bent), fixed=True), True)
        self.assertIs(side_holds(book, ("all",), ((0, (0, 0), (1, 1)), falling, bent), fixed=True), False)

    def test_papers_of_the_other_side(self):
        book = Book([UNLIKE])
        free, fixed = side_paper(book), side_paper(book, fixed=True)
        self.assertIs(side_holds(book, ("all",), fixed), False)
        self.assertIs(side_holds(book, ("all",), free, fixed=True), False)
        self.assertIs(side_holds(book, ("all",), free[::-1]), False)

    def test_no_paper_makes_a_cut_into_all(self):
        book = Book([LIKE])
        faults = side_paper(Book([UNLIKE]))
        for paper in ((), faults, (None, None, None)):
            self.assertIs(side_holds(book, ("all",), paper), False)

    def test_any_value_as_claim_and_paper(self):
        for book in (Book([LIKE]), Book([UNLIKE]), Book([LIKE, RATHER_YES]), Book([Price(1, (0, 0))])):
            for fixed in (False, True):
                claim, paper = side(book, fixed=fixed), side_paper(book, fixed=fixed)
                for value in any_values() + [["all"], [claim], "all", ("all", ()), ("cut",), list(claim)]:
                    self.assertIs(side_holds(book, value, paper, fixed=fixed), value == claim)
                    self.assertIs(side_holds(book, claim, value, fixed=fixed), value == paper)
                    self.assertIs(side_holds(book, value, value, fixed=fixed), False)

    def test_any_value_within_a_paper(self):
        book = Book([UNLIKE, LIKE])
        for fixed in (False, True):
            own = side_paper(book, fixed=fixed)
            for place, word in enumerate(words_of(fixed)):
                showing = all_showing(book, word)
                for value in any_values() + [own, own[place] + (0,), own[place][:-1], (0, (0, 1), (1, 0), (1, 1))]:
                    paper = own[:place] + (value,) + own[place + 1:]
                    self.assertIs(side_holds(book, ("all",), paper, fixed=fixed), False)
                    for within, member in enumerate(own[place]):
                        told = own[place][:within] + (value,) + own[place][within + 1:]
                        paper = own[:place] + (told,) + own[place + 1:]
                        right = told in showing and is_plain_throughout(value)
                        self.assertIs(side_holds(book, ("all",), paper, fixed=fixed), right)

    def test_bools_are_no_values_and_no_numbers(self):
        book = Book([UNLIKE, UNLIKE])
        right = ((0, (0, 1)), (1, (0, 1)), (0, (0, 1), (1, 0)))
        self.assertTrue(side_holds(book, ("all",), right))
        for wrong in (((False, (0, 1)),) + right[1:], ((0, (0, True)),) + right[1:], ((0, (False, 1)),) + right[1:],
                      right[:1] + ((True, (0, 1)),) + right[2:], right[:2] + ((0, (0, 1), (True, 0)),),
                      right[:2] + ((0, (0, 1), (1, False)),)):
            self.assertIs(side_holds(book, ("all",), wrong), False)

    def test_lists_are_none_also_within(self):
        for book in (Book([LIKE]), Book([UNLIKE])):
            claim, paper = side(book), side_paper(book)
            self.assertIs(side_holds(book, list(claim), paper), False)
            self.assertIs(side_holds(book, claim, list(paper)), False)
        self.assertIs(side_holds(Book([LIKE]), ("cut", list(FREE)), ()), False)
        book, paper = Book([UNLIKE]), side_paper(Book([UNLIKE]))
        for depth in range(3):
            self.assertNotEqual(as_list(paper, depth), paper)
            self.assertIs(side_holds(book, ("all",), as_list(paper, depth)), False)
        self.assertIs(side_holds(book, ("all",), as_list(paper, 3)), True)

    def test_too_many_and_too_few_members(self):
        book, paper = Book([UNLIKE]), side_paper(Book([UNLIKE]))
        for wrong in (paper[:2], paper[1:], paper + paper[2:], paper + ((),), (), (paper,)):
            self.assertIs(side_holds(book, ("all",), wrong), False)
        self.assertIs(side_holds(Book([LIKE]), side(Book([LIKE])), ((),)), False)
        self.assertIs(side_holds(Book([LIKE]), side(Book([LIKE])) + (0,), ()), False)

    def test_what_is_equal_to_everything_is_no_paper(self):
        self.assertIs(side_holds(Book([UNLIKE]), ("all",), AlwaysEqual()), False)

    def test_equal_calls_return_equal_results(self):
        for one, other in zip(books()[::40], books()[::40]):
            for fixed in (False, True):
                self.assertEqual(side(one, fixed=fixed), side(other, fixed=fixed))
                self.assertEqual(side_paper(one, fixed=fixed), side_paper(other, fixed=fixed))

    def test_the_oracle_takes_each_word(self):
        for word in WORDS:
            self.assertTrue([fault for fault in all_showing(Book([UNLIKE]), word)])
        self.assertTrue(shows(UNLIKE, "bent", ((1, 0), (0, 1))))


if __name__ == "__main__":
    unittest.main()
