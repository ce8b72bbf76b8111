"""Point [14], as far as it is of the module networks, and "cutorall/networks.py" in the interface."""

import inspect
import itertools
import random
import unittest

from cutorall import networks
from cutorall.errors import InvalidSum, Undefined
from cutorall.networks import flow_worth, network_of
from tests.cases import Case, is_plain
from tests.samples import any_sum, bent_sum, cut_rooms, is_bent_by_rows, worth
from tests.strange import any_values, rows
from tests.test_sums import is_right_sum

# 0 alone 4, 1 alone -1, the pair -3, the base 2: 4 - 3 is left for 0.
PAIR = (((), 2), ((0,), 4), ((0, 1), -3), ((1,), -1))
BELOW = (((0,), 5), ((0, 1, 2), -2), ((2,), -1))
ABOVE = (((0, 1), -3), ((0, 1, 2), 3), ((0, 2), -4), ((1, 2), -5))

PAIR_NETWORK = (4, 1, ((0, 3, 1), (2, 1, 1), (2, 3, 3)))
BELOW_NETWORK = (6, -3, ((0, 4, 1), (0, 5, 2), (2, 1, 5), (5, 2, 2), (5, 3, 2), (5, 4, 2)))
# The pair of 0 and 1 becomes 0; 0 has -3 by the triple and -1 by its pair with 2, 1 has -3 and -2, 2 has -3.
ABOVE_NETWORK = (6, -12, ((0, 2, 4), (0, 3, 5), (0, 4, 3), (2, 4, 1), (2, 5, 3), (3, 4, 2), (3, 5, 3), (4, 5, 3), (5, 1, 3)))


def cut_through(network, flow):
    """What the flow gives beyond what it takes, at each node."""
    given = [0] * network[0]
    for (source, target, _), number in zip(network[2], flow):
        given[source] += number
        given[target] -= number
    return given


def right_worth(network, flow):
    """The worth of the flow, None if it is none, told as [14] tells it."""
    arcs = network[2]
    if type(flow) is not tuple or len(flow) != len(arcs):
        return None
    if not all([is_plain(number) and 0 <= number <= arc[2] for number, arc in zip(flow, arcs)]):
        return None
    given = cut_through(network, flow)
    return given[0] if given[2:] == [0] * (network[0] - 2) else None


def bent_sums(count, letters=4, members=6, most=4):
    source = random.Random(8)
    found = []
    for _ in range(count):
        letter_count = source.randint(0, letters)
        found.append((bent_sum(source, letter_count, members, most), letter_count))
    return found


class NetworkTest(Case):

    def test_interface(self):
        functions = {"network_of": ["told", "letter_count"], "flow_worth": ["network", "flow"]}
        for name, parameters in functions.items():
            function = getattr(networks, name)
            self.assertEqual(function.__module__, "cutorall.networks")
            self.assertEqual(list(inspect.signature(function).parameters), parameters)

    def test_no_letters(self):
        self.assert_same(network_of((), 0), (2, 0, ()))
        self.assert_same(network_of((((), -7),), 0), (2, -7, ()))

    def test_letters_that_the_sum_has_not(self):
        self.assert_same(network_of((), 3), (5, 0, ()))
        self.assert_same(network_of((((1,), 2),), 3), (5, 0, ((3, 1, 2),)))

    def test_letters_alone(self):
        self.assert_same(network_of((((), 1), ((0,), 4), ((1,), -6)), 2), (4, -5, ((0, 3, 6), (2, 1, 4))))

    def test_a_pair(self):
        self.assert_same(network_of(PAIR, 2), PAIR_NETWORK)
        self.assert_same(network_of(told=PAIR, letter_count=2), PAIR_NETWORK)
        # What is left for 0 alone is 0, so it has no arc at an end.
        self.assert_same(network_of((((0,), 3), ((0, 1), -3)), 2), (4, 0, ((2, 3, 3),)))

    def test_a_triple_below_nought(self):
        self.assert_same(network_of(BELOW, 3), BELOW_NETWORK)

    def test_a_triple_above_nought(self):
        self.assert_same(network_of(ABOVE, 3), ABOVE_NETWORK)

    def test_helpers_stand_behind_all_letters_in_the_order_of_the_triples(self):
        told = (((0, 1, 2), -1), ((0, 1, 3), -2), ((1, 2, 3), -3))
        arcs = ((0, 7, 1), (0, 8, 2), (0, 9, 3), (7, 2, 1), (7, 3, 1), (7, 4, 1), (8, 2, 2), (8, 3, 2), (8, 5, 2),
                (9, 3, 3), (9, 4, 3), (9, 5, 3))
        self.assert_same(network_of(told, 5), (10, -6, arcs))

    def test_triples_above_and_below_nought_that_share_letters(self):
        told = (((0, 1), -2), ((0, 1, 2), 2), ((0, 1, 3), -1), ((0, 2), -2), ((1, 2), -2), ((2,), 2))
        arcs = ((0, 2, 2), (0, 3, 2), (0, 7, 1), (2, 6, 2), (3, 6, 2), (4, 6, 2), (6, 1, 2), (7, 2, 1), (7, 3, 1), (7, 5, 1))
        self.assert_same(network_of(told, 4), (8, -5, arcs))

    def test_the_form(self):
        for told, count in bent_sums(200):
            network = network_of(told, count)
            node_count, base, arcs = network
            triples = [letters for letters, _ in told if len(letters) == 3]
            self.assert_same(node_count, 2 + count + len(triples))
            self.assertTrue(is_plain(base))
            self.assert_same(arcs, tuple(sorted(set(arcs))))
            self.assertEqual(len(set([arc[:2] for arc in arcs])), len(arcs))
            for source, target, room in arcs:
                self.assertGreater(room, 0)
                self.assertNotEqual(source, 1)
                self.assertNotEqual(target, 0)
                self.assertNotEqual(source, target)
                self.assertTrue(0 <= source < node_count and 0 < target < node_count)

    def test_each_row_is_worth_the_least_cut_over_the_helpers(self):
        for told, count in bent_sums(200):
            network = network_of(told, count)
            for row in rows(count):
                cuts = [cut_rooms(network, (1, 0) + row + helpers) for helpers in rows(network[0] - 2 - count)]
                self.assertEqual(network[1] + min(cuts), worth(told, row))


class ErrorTest(Case):

    def test_any_value_as_sum(self):
        for told in any_values():
            for count in (0, 1, 3):
                if is_right_sum(told, count):
                    self.assertEqual(network_of(told, count)[0], 2 + count)
                else:
                    self.assert_wrong(InvalidSum, told, network_of, told, count)
                    self.assert_wrong(InvalidSum, told, network_of, told=told, letter_count=count)

    def test_wrong_sums(self):
        for told in (list(PAIR), (((0,), 1), ((0,), 2)), (((1,), 1), ((0,), 1)), (((0,), 0),), (((0,), True),),
                     (((False,), 1),), (((1, 0), -1),), ([(0,), 1],), (([0], 1),), (((0, 1, 2, 3), -1),), (((0, 0), -1),)):
            self.assert_wrong(InvalidSum, told, network_of, told, 4)

    def test_letters_above_the_count(self):
        for count in (0, 1):
            self.assert_wrong(InvalidSum, PAIR, network_of, PAIR, count)
        for count in (2, 3, 10):
            self.assertEqual(network_of(PAIR, count)[0], 2 + count)

    def test_sums_that_are_not_bent(self):
        for told in ((((0, 1), 1),), (((0, 1, 2), 1),), ABOVE[:2] + ABOVE[2:3] + (((1, 2), -2),)):
            self.assert_error(Undefined, {"what": "bent"}, network_of, told, 3)
            self.assert_error(Undefined, {"what": "bent"}, network_of, told=told, letter_count=3)

    def test_just_the_sums_that_are_not_bent(self):
        source = random.Random(9)
        found = {True: 0, False: 0}
        for _ in range(200):
            told = any_sum(source, 4, 3, 2)
            bent = is_bent_by_rows(told, 4)
            found[bent] += 1
            if bent:
                network_of(told, 4)
            else:
                self.assert_error(Undefined, {"what": "bent"}, network_of, told, 4)
        self.assertGreater(min(found.values()), 20)

    def test_the_order_of_errors(self):
        told = (((0, 1), 1), ((2,), 1))
        self.assert_wrong(InvalidSum, told, network_of, told, 2)
        self.assert_error(Undefined, {"what": "bent"}, network_of, told, 3)


class FlowWorthTest(Case):

    def test_ordinary(self):
        self.assert_same(flow_worth(PAIR_NETWORK, (0, 0, 0)), 0)
        self.assert_same(flow_worth(network=BELOW_NETWORK, flow=(0, 2, 2, 2, 0, 0)), 2)
        self.assert_same(flow_worth(BELOW_NETWORK, (0, 1, 1, 1, 0, 0)), 1)
        self.assert_same(flow_worth((2, 5, ()), ()), 0)
        self.assert_same(flow_worth(ABOVE_NETWORK, (1, 0, 2, 0, 1, 0, 0, 2, 3)), 3)
        self.assert_same(flow_worth(ABOVE_NETWORK, (1, 1, 0, 1, 0, 0, 1, 1, 2)), 2)

    def test_the_flow_of_noughts(self):
        for told, count in bent_sums(50):
            network = network_of(told, count)
            self.assert_same(flow_worth(network, (0,) * len(network[2])), 0)

    def test_nodes_that_do_not_give_what_they_get(self):
        for flow in ((0, 2, 1, 2, 0, 0), (0, 1, 2, 2, 0, 0), (0, 2, 2, 1, 0, 0), (0, 0, 1, 0, 0, 0), (1, 0, 0, 0, 0, 0),
                     (0, 0, 2, 2, 0, 0), (0, 2, 0, 2, 0, 0), (0, 1, 0, 0, 0, 1)):
            self.assertIsNone(flow_worth(BELOW_NETWORK, flow))

    def test_rooms_exceeded(self):
        self.assertIsNone(flow_worth(BELOW_NETWORK, (0, 3, 3, 3, 0, 0)))
        self.assertIsNone(flow_worth(ABOVE_NETWORK, (4, 0, 0, 0, 4, 0, 0, 0, 4)))
        self.assertIsNone(flow_worth(PAIR_NETWORK, (-1, 0, 0)))
        self.assertIsNone(flow_worth(BELOW_NETWORK, (0, -1, -1, -1, 0, 0)))

    def test_one_arc_more_or_less(self):
        right = (0, 2, 2, 2, 0, 0)
        for flow in (right + (0,), right[:-1], right[1:], (0,) + right, (), right + (0, 0)):
            self.assertIsNone(flow_worth(BELOW_NETWORK, flow))
        for flow in ((0,), (0, 0)):
            self.assertIsNone(flow_worth((2, 5, ()), flow))

    def test_bools_and_lists_are_none(self):
        for flow in ([0, 2, 2, 2, 0, 0], (False, 2, 2, 2, 0, 0), (0, True, True, True, 0, 0), (0, 2, 2, 2, False, 0),
                     (0, 1, True, 1, 0, 0), (0, 2, 2, 2, 0, None), (0, 2, 2, "2", 0, 0), (0, 2, 2, (2,), 0, 0)):
            self.assertIsNone(flow_worth(BELOW_NETWORK, flow))

    def test_any_value(self):
        small = [(2, 0, ()), network_of((((0,), 2),), 1), network_of((((0,), 2), ((0, 1), -2), ((1,), -1)), 2),
                 BELOW_NETWORK]
        for network in small:
            for flow in any_values():
                self.assertEqual(flow_worth(network, flow), right_worth(network, flow))
                self.assertEqual(flow_worth(network=network, flow=(flow,)), right_worth(network, (flow,)))

    def test_any_value_within_a_flow(self):
        for place, value in itertools.product(range(6), any_values()):
            flow = [0, 1, 1, 1, 0, 0]
            flow[place] = value
            self.assertEqual(flow_worth(BELOW_NETWORK, tuple(flow)), right_worth(BELOW_NETWORK, tuple(flow)))

    def test_all_tuples_of_numbers_of_small_networks(self):
        found = 0
        for told, count in bent_sums(150, 3, 3, 1):
            network = network_of(told, count)
            if len(network[2]) > 8:
                continue
            for flow in itertools.product(*[range(room + 1) for _, _, room in network[2]]):
                told_worth = right_worth(network, flow)
                found += told_worth is not None
                self.assertEqual(flow_worth(network, flow), told_worth)
        self.assertGreater(found, 100)

    def test_equal_calls_return_equal_results(self):
        for (one, count), (other, _) in zip(bent_sums(30), bent_sums(30)):
            self.assertEqual(network_of(one, count), network_of(other, count))
            flow = (0,) * len(network_of(one, count)[2])
            self.assertEqual(flow_worth(network_of(one, count), flow), flow_worth(network_of(other, count), flow))


if __name__ == "__main__":
    unittest.main()
