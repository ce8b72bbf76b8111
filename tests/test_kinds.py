"""Point [10] and "cutorall/kinds.py" in the interface."""

import functools
import inspect
import itertools
import random
import unittest

from cutorall import kinds
from cutorall.books import Book
from cutorall.errors import Undefined
from cutorall.kinds import fault_of, fixed_kinds, free_kinds, is_kind
from cutorall.prices import Price
from tests.cases import Case
from tests.samples import LIKE, LIKE_THREE, RATHER_YES, SKEW, UNLIKE, any_price, prices_of
from tests.strange import any_values, rows

WORDS = ["all no", "all yes", "bent", "rising", "falling"]

# Of each kind a price that is of no other one of the five but those that are told.
ONLY = {
    "all no": (Price(3, (0, 1, 1, 3, 1, 3, 3, 2)), ("all no",)),
    "all yes": (Price(3, (2, 3, 3, 1, 3, 1, 1, 0)), ("all yes",)),
    "bent": (Price(2, (1, 0, 2, 1)), ("bent",)),
    "rising": (Price(2, (0, 1, 1, 3)), ("all no", "rising")),
    "falling": (Price(2, (3, 1, 1, 0)), ("all yes", "falling")),
}


def shows(price, word, shown):
    """Whether these rows show that the price is not of the kind, told as [10] tells it."""
    costs = dict(zip(rows(price.size), price.amounts))
    if word == "all no":
        return costs[shown[0]] < price.amounts[0]
    if word == "all yes":
        return costs[shown[0]] < price.amounts[-1]
    one, other = shown
    if word == "bent":
        both = tuple([int(a == 1 and b == 1) for a, b in zip(one, other)])
        either = tuple([int(a == 1 or b == 1) for a, b in zip(one, other)])
        return costs[one] + costs[other] < costs[both] + costs[either]
    unlike = [place for place in range(price.size) if one[place] != other[place]]
    if len(unlike) != 1 or one[unlike[0]] == 1:
        return False
    return costs[other] < costs[one] if word == "rising" else costs[other] > costs[one]


def all_faults(book, word):
    """All faults of the book, in their order."""
    found = []
    for number, price in enumerate(book.prices):
        told = [(row,) for row in rows(price.size)]
        if word not in ("all no", "all yes"):
            told = sorted(itertools.combinations(rows(price.size), 2))
        found.extend([(number,) + shown for shown in told if shows(price, word, shown)])
    return found


@functools.cache
def books():
    """Books of one and of more prices, of each kind and of none."""
    found = [Book([price]) for price in prices_of(1, (0, 1, 2)) + prices_of(2, (-1, 0, 1))]
    source = random.Random(5)
    for _ in range(120):
        sizes = [source.randint(1, 3) for _ in range(source.randint(1, 6))]
        found.append(Book([any_price(source, size, 0, 2) for size in sizes]))
    for chosen in itertools.product([price for price, _ in ONLY.values()], repeat=2):
        found.append(Book(chosen))
    return found + [Book([any_price(source, 3, 0, 1)]) for _ in range(120)]


class KindCase(Case):

    def assert_kinds(self, book, words):
        self.assertEqual([word for word in WORDS if is_kind(book, word)], words)


class InterfaceTest(KindCase):

    def test_interface(self):
        functions = {"is_kind": ["book", "word"], "fault_of": ["book", "word"], "free_kinds": ["book"],
                     "fixed_kinds": ["book"]}
        for name, parameters in functions.items():
            function = getattr(kinds, name)
            self.assertEqual(function.__module__, "cutorall.kinds")
            self.assertEqual(list(inspect.signature(function).parameters), parameters)

    def test_any_value_as_word(self):
        for word in any_values() + ["All no", "all  no", "all", "rising ", "bend", ["bent"], ("bent",), "fixed"]:
            self.assert_error(Undefined, {"what": "word"}, is_kind, Book([LIKE]), word)
            self.assert_error(Undefined, {"what": "word"}, fault_of, Book([LIKE]), word)
            self.assert_error(Undefined, {"what": "word"}, is_kind, book=Book([LIKE]), word=word)
            self.assert_error(Undefined, {"what": "word"}, fault_of, book=Book([LIKE]), word=word)


class KindTest(KindCase):

    def test_ordinary(self):
        self.assert_kinds(Book([LIKE]), ["all no", "all yes", "bent"])
        self.assert_kinds(Book([UNLIKE]), [])
        self.assert_kinds(Book([RATHER_YES]), ["all yes", "bent", "falling"])
        self.assert_kinds(Book([LIKE, RATHER_YES]), ["all yes", "bent"])
        self.assert_kinds(Book([UNLIKE, RATHER_YES]), [])
        self.assert_kinds(Book([Price(3, (4,) * 8)]), WORDS)
        self.assert_kinds(Book([SKEW]), [])
        self.assert_kinds(Book([LIKE_THREE]), ["all no", "all yes", "bent"])

    def test_of_each_kind_one_that_is_of_few_others(self):
        for word, (price, words) in ONLY.items():
            self.assertIn(word, words)
            self.assert_kinds(Book([price]), list(words))

    def test_a_book_is_of_a_kind_if_all_its_prices_are(self):
        for book in books():
            for word in WORDS:
                each = [is_kind(Book([price]), word) for price in book.prices]
                self.assertIs(is_kind(book, word), all(each))
                self.assertIs(is_kind(book=book, word=word), all(each))

    def test_opposites(self):
        turned = {"all no": "all yes", "all yes": "all no", "bent": "bent", "rising": "falling", "falling": "rising"}
        for book in books():
            opposite = Book([price.opposite() for price in book.prices])
            for word in WORDS:
                self.assertIs(is_kind(opposite, word), is_kind(book, turned[word]))

    def test_free_and_fixed_kinds(self):
        for book in books():
            self.assert_same(free_kinds(book), tuple([word for word in WORDS[:3] if not all_faults(book, word)]))
            fixed = tuple([word for word in ("rising", "falling", "bent") if not all_faults(book, word)])
            self.assert_same(fixed_kinds(book), fixed)
            self.assertEqual(free_kinds(book=book), free_kinds(book))
            self.assertEqual(fixed_kinds(book=book), fixed_kinds(book))

    def test_the_order_of_the_words(self):
        constant = Book([Price(2, (1, 1, 1, 1))])
        self.assert_same(free_kinds(constant), ("all no", "all yes", "bent"))
        self.assert_same(fixed_kinds(constant), ("rising", "falling", "bent"))
        self.assert_same(free_kinds(Book([UNLIKE])), ())
        self.assert_same(fixed_kinds(Book([UNLIKE])), ())


class FaultTest(KindCase):

    def test_ordinary(self):
        self.assertIsNone(fault_of(Book([LIKE]), "bent"))
        self.assert_same(fault_of(Book([UNLIKE]), "bent"), (0, (0, 1), (1, 0)))
        self.assert_same(fault_of(Book([UNLIKE]), "all no"), (0, (0, 1)))
        self.assert_same(fault_of(Book([UNLIKE]), "all yes"), (0, (0, 1)))
        self.assert_same(fault_of(Book([UNLIKE]), "rising"), (0, (0, 0), (0, 1)))
        self.assert_same(fault_of(Book([UNLIKE]), "falling"), (0, (0, 1), (1, 1)))
        self.assert_same(fault_of(Book([LIKE, RATHER_YES]), "all no"), (1, (1,)))
        self.assert_same(fault_of(Book([LIKE, RATHER_YES]), "rising"), (0, (0, 1), (1, 1)))
        self.assert_same(fault_of(Book([RATHER_YES, LIKE]), "rising"), (0, (0,), (1,)))

    def test_the_first_price_and_the_first_rows(self):
        for book in books():
            for word in WORDS:
                faults = all_faults(book, word)
                found = fault_of(book, word)
                if faults:
                    self.assert_same(found, faults[0])
                else:
                    self.assertIsNone(found)
                self.assertEqual(fault_of(book=book, word=word), found)
                self.assertIs(is_kind(book, word), not faults)

    def test_pairs_ascend_as_tuples(self):
        # From (0, 0, 1) on, each further yes costs less: the pair whose later row is least comes first.
        price = Price(3, (0, 5, 0, 4, 0, 4, 0, 9))
        self.assert_same(fault_of(Book([price]), "rising"), (0, (0, 0, 1), (0, 1, 1)))
        # The first of the rows that is a fault at all comes first, even if the pair's other row is a late one.
        late = Price(3, (0, 0, 0, 0, -9, 0, 0, 0))
        self.assert_same(fault_of(Book([late]), "rising"), (0, (0, 0, 0), (1, 0, 0)))
        self.assert_same(fault_of(Book([late]), "bent"), (0, (0, 0, 1), (1, 0, 0)))

    def test_just_a_kind_and_just_not(self):
        for size in (1, 2, 3):
            for row, value in itertools.product(rows(size), (0, 1)):
                amounts = [5] * 2 ** size
                amounts[rows(size).index(row)] = 4
                noughts, ones = (0,) * size, (1,) * size
                book = Book([Price(size, amounts)])
                self.assertIs(is_kind(book, "all no"), row == noughts)
                self.assertIs(is_kind(book, "all yes"), row == ones)

    def test_equal_calls_return_equal_results_and_change_nothing(self):
        for one, other in zip(books()[-30:], books()[-30:]):
            before = [(price.size, price.amounts) for price in one.prices]
            for word in WORDS:
                self.assertEqual(fault_of(one, word), fault_of(other, word))
            self.assertEqual([(price.size, price.amounts) for price in one.prices], before)


if __name__ == "__main__":
    unittest.main()
