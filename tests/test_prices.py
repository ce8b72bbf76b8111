"""Point [5] and "cutorall/prices.py" in the interface."""

import inspect
import itertools
import unittest

from cutorall.errors import InvalidFilling, InvalidNumber, InvalidPrice, Undefined
from cutorall.prices import Price
from tests.cases import Case, is_plain
from tests.strange import AlwaysEqual, any_values, rows

# Amounts that are all unlike, so that a row mistaken for another one shows.
SAMPLES = {1: (7, -2), 2: (3, 0, -5, 11), 3: (4, -9, 0, 25, 6, -1, 13, 2)}

METHODS = {
    "cost": ["self", "row"], "least": ["self"], "cheapest_rows": ["self"], "opposite": ["self"],
    "plus": ["self", "other"], "times": ["self", "many"], "fixed": ["self", "place", "value"],
    "read_at": ["self", "places", "size"],
}


def samples():
    return [Price(size, amounts) for size, amounts in SAMPLES.items()]


class PriceCase(Case):

    def assert_price(self, price, size, amounts):
        self.assertIs(type(price), Price)
        self.assertTrue(is_plain(price.size))
        self.assertEqual(price.size, size)
        self.assertIs(type(price.amounts), tuple)
        self.assertEqual(price.amounts, tuple(amounts))
        self.assertTrue(all(is_plain(amount) for amount in price.amounts))


class MakingTest(PriceCase):

    def test_interface(self):
        self.assertEqual(Price.__module__, "cutorall.prices")
        self.assertEqual(list(inspect.signature(Price).parameters), ["size", "amounts"])
        self.assertIn("__eq__", vars(Price))
        for name, parameters in METHODS.items():
            self.assertIn(name, vars(Price))
            self.assertEqual(list(inspect.signature(vars(Price)[name]).parameters), parameters)

    def test_sizes_one_to_three_by_tuple_and_list(self):
        for size, amounts in SAMPLES.items():
            self.assert_price(Price(size, amounts), size, amounts)
            self.assert_price(Price(size, list(amounts)), size, amounts)
            self.assert_price(Price(size=size, amounts=amounts), size, amounts)
            self.assert_price(Price(amounts=list(amounts), size=size), size, amounts)

    def test_attributes_are_set_on_the_object(self):
        self.assertLessEqual({"size", "amounts"}, set(vars(Price(1, (0, 1)))))

    def test_six_figures_and_somewhat_beyond(self):
        for amount in (999999, -999999, 10 ** 7, -10 ** 40):
            self.assert_price(Price(1, (amount, 0)), 1, (amount, 0))

    def test_just_outside_the_sizes(self):
        for size, count in ((0, 1), (4, 16), (-1, 0), (-1, 1), (-1, 2)):
            amounts = (0,) * count
            self.assert_error(InvalidPrice, {"value": (size, amounts)}, Price, size, amounts)

    def test_too_many_and_too_few_amounts(self):
        for size in (1, 2, 3):
            for count in range(12):
                amounts = [0] * count
                if count == 2 ** size:
                    Price(size, amounts)
                else:
                    self.assert_error(InvalidPrice, {"value": (size, amounts)}, Price, size, amounts)

    def test_any_value_as_size(self):
        for size in any_values():
            for amounts in ((0,), (0, 1), (0, 1, 2, 3), (0,) * 8, (0,) * 16):
                if is_plain(size) and 1 <= size <= 3 and len(amounts) == 2 ** size:
                    continue
                made = self.assert_error(InvalidPrice, {"value": (size, amounts)}, Price, size, amounts)
                self.assertIs(made.value[0], size)

    def test_any_value_as_amounts(self):
        for size in (1, 2, 3):
            for amounts in any_values():
                right = isinstance(amounts, (list, tuple)) and len(amounts) == 2 ** size
                if right and all(is_plain(amount) for amount in amounts):
                    self.assert_price(Price(size, amounts), size, amounts)
                else:
                    made = self.assert_error(InvalidPrice, {"value": (size, amounts)}, Price, size, amounts)
                    self.assertIs(made.value[1], amounts)

    def test_any_value_as_one_amount(self):
        for amount in any_values():
            for place in range(4):
                amounts = [5, 5, 5, 5]
                amounts[place] = amount
                if is_plain(amount):
                    self.assert_price(Price(2, amounts), 2, amounts)
                else:
                    made = self.assert_error(InvalidPrice, {"value": (2, amounts)}, Price, 2, amounts)
                    self.assertIs(made.value[1], amounts)

    def test_true_is_no_size_and_no_amount(self):
        self.assert_error(InvalidPrice, {"value": (True, (0, 1))}, Price, True, (0, 1))
        self.assert_error(InvalidPrice, {"value": (1, (0, True))}, Price, 1, (0, True))
        self.assert_error(InvalidPrice, {"value": (1, (False, 1))}, Price, 1, (False, 1))

    def test_other_things_that_go_over_integers_are_no_sequences(self):
        for amounts in ({0: 1, 1: 2}, range(2), b"ab", "01"):
            self.assert_error(InvalidPrice, {"value": (1, amounts)}, Price, 1, amounts)

    def test_a_list_changed_later_changes_nothing(self):
        amounts = [0, 3, 3, 0]
        price = Price(2, amounts)
        amounts[0] = 9
        amounts.append(1)
        self.assert_price(price, 2, (0, 3, 3, 0))
        self.assertEqual(price.cost((0, 0)), 0)

    def test_the_argument_is_not_changed(self):
        amounts = [0, 3, 3, 0]
        Price(2, amounts).read_at([0, 0], 1)
        self.assertEqual(amounts, [0, 3, 3, 0])

    def test_the_error_keeps_the_list_itself(self):
        amounts = [0, 3, 3]
        made = self.assert_error(InvalidPrice, {"value": (2, amounts)}, Price, 2, amounts)
        self.assertIs(type(made.value), tuple)
        self.assertIs(made.value[1], amounts)
        self.assertEqual(amounts, [0, 3, 3])


class EqualTest(PriceCase):

    def test_equal_if_both_are(self):
        self.assertTrue(Price(1, (0, 1)) == Price(1, [0, 1]))
        self.assertFalse(Price(1, (0, 1)) != Price(1, [0, 1]))
        self.assertFalse(Price(1, (0, 1)) == Price(1, (0, 2)))
        self.assertTrue(Price(1, (0, 1)) != Price(1, (0, 2)))
        self.assertFalse(Price(1, (0, 1)) == Price(1, (1, 0)))
        for one, other in itertools.permutations(samples(), 2):
            self.assertFalse(one == other)
            self.assertTrue(one != other)

    def test_the_answer_is_a_bool(self):
        price = Price(1, (0, 1))
        for other in [Price(1, (0, 1)), Price(1, (0, 2)), Price(2, (0, 1, 0, 1)), None, 0]:
            self.assertIs(type(price == other), bool)

    def test_equal_to_nothing_of_another_kind(self):
        price = Price(1, (0, 1))
        others = [value for value in any_values() if not isinstance(value, Price)]
        for other in others + [(1, (0, 1)), [1, (0, 1)], AlwaysEqual()]:
            self.assertIs(price == other, False)
            self.assertIs(price != other, True)

    def test_not_iterable(self):
        with self.assertRaises(TypeError):
            iter(Price(1, (0, 1)))


class CostTest(PriceCase):

    def test_each_row_ascending(self):
        for price in samples():
            self.assertEqual(tuple(price.cost(row) for row in rows(price.size)), SAMPLES[price.size])
            self.assertEqual(tuple(price.cost(row=row) for row in rows(price.size)), SAMPLES[price.size])

    def test_the_first_place_weighs_most(self):
        price = Price(3, (0, 1, 2, 3, 4, 5, 6, 7))
        self.assertEqual(price.cost((1, 0, 0)), 4)
        self.assertEqual(price.cost((0, 1, 0)), 2)
        self.assertEqual(price.cost((0, 0, 1)), 1)
        self.assertEqual(price.cost((1, 1, 0)), 6)

    def test_any_value_as_row(self):
        for price in samples():
            for row in any_values():
                right = isinstance(row, tuple) and len(row) == price.size
                if right and all(is_plain(value) and value in (0, 1) for value in row):
                    self.assertIn(price.cost(row), price.amounts)
                else:
                    self.assert_wrong(InvalidFilling, row, price.cost, row)

    def test_wrong_rows(self):
        price = Price(2, (3, 0, -5, 11))
        for row in ([0, 1], (0,), (0, 1, 0), (), (0, 2), (-1, 0), (True, 0), (0, False), (0, None), "01", None):
            self.assert_wrong(InvalidFilling, row, price.cost, row)
            self.assert_wrong(InvalidFilling, row, price.cost, row=row)


class LeastTest(PriceCase):

    def test_least(self):
        self.assertEqual([price.least() for price in samples()], [-2, -5, -9])
        self.assertEqual(Price(1, (4, 4)).least(), 4)

    def test_cheapest_rows(self):
        self.assertEqual(Price(1, (7, -2)).cheapest_rows(), ((1,),))
        self.assertEqual(Price(1, (4, 4)).cheapest_rows(), ((0,), (1,)))
        self.assertEqual(Price(2, (1, 0, 0, 1)).cheapest_rows(), ((0, 1), (1, 0)))
        self.assertEqual(Price(3, (5, 5, 6, -1, -1, 9, -1, 0)).cheapest_rows(), ((0, 1, 1), (1, 0, 0), (1, 1, 0)))

    def test_cheapest_rows_of_all_prices_of_small_amounts(self):
        for size in (1, 2, 3):
            for amounts in itertools.product((-1, 0), repeat=2 ** size):
                cheapest = [row for row, amount in zip(rows(size), amounts) if amount == min(amounts)]
                found = Price(size, amounts).cheapest_rows()
                self.assertEqual(found, tuple(cheapest))
                self.assertIs(type(found), tuple)
                self.assertTrue(all(type(row) is tuple for row in found))


class OppositeTest(PriceCase):

    def test_each_row_costs_what_its_opposite_cost(self):
        for price in samples():
            opposite = price.opposite()
            self.assertEqual(opposite.size, price.size)
            for row in rows(price.size):
                self.assertEqual(opposite.cost(row), price.cost(tuple(1 - value for value in row)))
            self.assertEqual(opposite.opposite(), price)

    def test_ordinary(self):
        self.assert_price(Price(2, (3, 0, -5, 11)).opposite(), 2, (11, -5, 0, 3))


class PlusTest(PriceCase):

    def test_row_by_row(self):
        self.assert_price(Price(1, (7, -2)).plus(Price(1, (-7, 5))), 1, (0, 3))
        for price in samples():
            other = price.opposite()
            both = price.plus(other=other)
            self.assert_price(both, price.size, [price.cost(row) + other.cost(row) for row in rows(price.size)])

    def test_unlike_sizes(self):
        for one, other in itertools.permutations(samples(), 2):
            self.assert_error(Undefined, {"what": "size"}, one.plus, other)
            self.assert_error(Undefined, {"what": "size"}, one.plus, other=other)

    def test_what_is_no_price_has_no_such_size(self):
        for other in [value for value in any_values() if not isinstance(value, Price)]:
            self.assert_error(Undefined, {"what": "size"}, Price(1, (0, 1)).plus, other)


class TimesTest(PriceCase):

    def test_ordinary(self):
        self.assert_price(Price(2, (3, 0, -5, 11)).times(3), 2, (9, 0, -15, 33))
        self.assert_price(Price(1, (7, -2)).times(many=1), 1, (7, -2))
        self.assert_price(Price(1, (7, -2)).times(10 ** 9), 1, (7 * 10 ** 9, -2 * 10 ** 9))

    def test_any_value_as_many(self):
        price = Price(1, (7, -2))
        for many in any_values():
            if is_plain(many) and many >= 1:
                self.assert_price(price.times(many), 1, (7 * many, -2 * many))
            else:
                self.assert_wrong(InvalidNumber, many, price.times, many)

    def test_nought_below_nought_and_true(self):
        for many in (0, -1, True, False, None, "2", (2,)):
            self.assert_wrong(InvalidNumber, many, Price(1, (0, 1)).times, many=many)


class FixedTest(PriceCase):

    def test_each_place_and_value(self):
        for price in samples()[1:]:
            for place in range(price.size):
                for value in (0, 1):
                    amounts = [price.cost(row) for row in rows(price.size) if row[place] == value]
                    self.assert_price(price.fixed(place, value), price.size - 1, amounts)
                    self.assert_price(price.fixed(value=value, place=place), price.size - 1, amounts)

    def test_the_other_places_stay_in_order(self):
        price = Price(3, (0, 1, 2, 3, 4, 5, 6, 7))
        self.assert_price(price.fixed(0, 1), 2, (4, 5, 6, 7))
        self.assert_price(price.fixed(1, 0), 2, (0, 1, 4, 5))
        self.assert_price(price.fixed(2, 1), 2, (1, 3, 5, 7))

    def test_size_one(self):
        for place, value in ((0, 0), (0, 1)):
            self.assert_error(Undefined, {"what": "size"}, Price(1, (0, 1)).fixed, place, value)

    def test_any_value_as_place(self):
        for price in samples():
            for place in any_values():
                if is_plain(place) and 0 <= place < price.size:
                    continue
                self.assert_wrong(InvalidNumber, place, price.fixed, place, 0)

    def test_any_value_as_value(self):
        for price in samples():
            for value in any_values():
                if is_plain(value) and value in (0, 1):
                    continue
                self.assert_wrong(InvalidNumber, value, price.fixed, 0, value)

    def test_true_and_false_are_no_place_and_no_value(self):
        price = Price(2, (3, 0, -5, 11))
        for wrong in (True, False):
            self.assert_wrong(InvalidNumber, wrong, price.fixed, wrong, 0)
            self.assert_wrong(InvalidNumber, wrong, price.fixed, 0, wrong)

    def test_the_order_of_errors(self):
        self.assert_wrong(InvalidNumber, 3, Price(3, SAMPLES[3]).fixed, 3, 2)
        self.assert_wrong(InvalidNumber, -1, Price(2, SAMPLES[2]).fixed, -1, "1")
        self.assert_wrong(InvalidNumber, 1, Price(1, (0, 1)).fixed, 1, 2)
        self.assert_wrong(InvalidNumber, 2, Price(1, (0, 1)).fixed, 0, 2)


class ReadAtTest(PriceCase):

    def test_all_places_of_all_sizes(self):
        for price in samples():
            for size in (1, 2, 3):
                for places in itertools.product(range(size), repeat=price.size):
                    amounts = [price.cost(tuple(row[place] for place in places)) for row in rows(size)]
                    self.assert_price(price.read_at(places, size), size, amounts)
                    self.assert_price(price.read_at(list(places), size), size, amounts)
                    self.assert_price(price.read_at(size=size, places=places), size, amounts)

    def test_ordinary(self):
        price = Price(2, (3, 0, -5, 11))
        self.assert_price(price.read_at((0, 1), 2), 2, (3, 0, -5, 11))
        self.assert_price(price.read_at((1, 0), 2), 2, (3, -5, 0, 11))
        self.assert_price(price.read_at((0, 0), 1), 1, (3, 11))
        self.assert_price(price.read_at((2, 2), 3), 3, (3, 11, 3, 11, 3, 11, 3, 11))
        self.assert_price(Price(3, (0, 1, 2, 3, 4, 5, 6, 7)).read_at([1, 0, 1], 2), 2, (0, 5, 2, 7))

    def test_any_value_as_size(self):
        for price in samples():
            for size in any_values():
                if is_plain(size) and 1 <= size <= 3:
                    continue
                self.assert_wrong(InvalidNumber, size, price.read_at, (0,) * price.size, size)

    def test_just_outside_the_sizes(self):
        for size in (0, 4, -1, True):
            self.assert_wrong(InvalidNumber, size, Price(1, (0, 1)).read_at, (0,), size)

    def test_any_value_as_places(self):
        for price in samples():
            for size in (1, 2, 3):
                for places in any_values():
                    right = isinstance(places, (list, tuple)) and len(places) == price.size
                    if right and all(is_plain(place) and 0 <= place < size for place in places):
                        price.read_at(places, size)
                    else:
                        self.assert_wrong(InvalidNumber, places, price.read_at, places, size)

    def test_wrong_places(self):
        price = Price(2, (3, 0, -5, 11))
        for places in ((), (0,), (0, 1, 0), [0, 1, 0], (0, 2), (-1, 0), (True, 0), (0, False), (0, None), "01", 0):
            self.assert_wrong(InvalidNumber, places, price.read_at, places, 2)

    def test_the_order_of_errors(self):
        self.assert_wrong(InvalidNumber, 4, Price(1, (0, 1)).read_at, (7,), 4)
        self.assert_wrong(InvalidNumber, None, Price(1, (0, 1)).read_at, "0", None)

    def test_a_list_changed_later_changes_nothing(self):
        places = [1, 0]
        read = Price(2, (3, 0, -5, 11)).read_at(places, 2)
        places[0] = 0
        self.assert_price(read, 2, (3, -5, 0, 11))


class NothingChangesTest(PriceCase):

    def test_calls_change_no_price(self):
        for price in samples():
            price.opposite()
            price.plus(price)
            price.times(2)
            price.cheapest_rows()
            price.read_at([0] * price.size, 1)
            if price.size > 1:
                price.fixed(0, 1)
            self.assert_price(price, price.size, SAMPLES[price.size])
            self.assertEqual(sorted(vars(price)), ["amounts", "size"])

    def test_calls_that_raise_change_no_price(self):
        for price in samples():
            unlike = [other for other in samples() if other.size != price.size]
            self.assert_wrong(InvalidFilling, None, price.cost, None)
            self.assert_error(Undefined, {"what": "size"}, price.plus, unlike[0])
            self.assert_wrong(InvalidNumber, 0, price.times, 0)
            self.assert_wrong(InvalidNumber, None, price.fixed, 0, None)
            self.assert_wrong(InvalidNumber, (9,), price.read_at, (9,), 1)
            self.assert_price(price, price.size, SAMPLES[price.size])
            self.assert_price(unlike[0], unlike[0].size, SAMPLES[unlike[0].size])

    def test_equal_calls_return_equal_results(self):
        for one, other in zip(samples(), samples()):
            self.assertEqual(one.opposite(), other.opposite())
            self.assertEqual(one.times(4), other.times(4))
            self.assertEqual(one.plus(one), other.plus(other))
            self.assertEqual(one.cheapest_rows(), other.cheapest_rows())


if __name__ == "__main__":
    unittest.main()
