"""Point [14], as far as it is of the module flows, and "cutorall/flows.py" in the interface."""

import inspect
import itertools
import random
import unittest

from cutorall import flows
from cutorall.flows import greatest_flow, least_side
from cutorall.networks import flow_worth, network_of
from tests.cases import Case
from tests.samples import bent_sum, cut_rooms, least_cuts, worth
from tests.strange import rows
from tests.test_networks import ABOVE_NETWORK, BELOW_NETWORK, PAIR_NETWORK, bent_sums, right_worth


def small_networks():
    """Networks of bent sums of few letters, by which all rows of nodes may be tried."""
    return [network_of(told, count) for told, count in bent_sums(250, 5, 8)]


def reached(network, flow):
    """The row of the nodes to which a way with room left leads from the yes end, told as [14] tells it."""
    yes = {0}
    for _ in range(network[0]):
        for (source, target, room), number in zip(network[2], flow):
            if source in yes and number < room:
                yes.add(target)
            if target in yes and number > 0:
                yes.add(source)
    return tuple([int(node in yes) for node in range(network[0])])


class FlowCase(Case):

    def assert_greatest(self, network):
        """The flow is one, cuts what the least side cuts, and the least side is what it leads to."""
        flow = greatest_flow(network)
        side = least_side(network)
        self.assert_same(flow, tuple(flow))
        self.assert_same(side, reached(network, flow))
        self.assertIsNotNone(right_worth(network, flow))
        self.assertEqual(side[:2], (1, 0))
        self.assertEqual(right_worth(network, flow), cut_rooms(network, side))
        return flow, side


class GreatestTest(FlowCase):

    def test_interface(self):
        for name in ("greatest_flow", "least_side"):
            function = getattr(flows, name)
            self.assertEqual(function.__module__, "cutorall.flows")
            self.assertEqual(list(inspect.signature(function).parameters), ["network"])

    def test_no_letters_and_no_arcs(self):
        for network in ((2, 0, ()), (2, -7, ()), (5, 3, ())):
            self.assert_same(greatest_flow(network), ())
            self.assert_same(greatest_flow(network=network), ())
            self.assert_same(least_side(network=network), (1,) + (0,) * (network[0] - 1))

    def test_ordinary(self):
        self.assert_same(greatest_flow(PAIR_NETWORK), (0, 0, 0))
        self.assert_same(least_side(PAIR_NETWORK), (1, 0, 0, 1))
        self.assert_same(greatest_flow(BELOW_NETWORK), (0, 2, 2, 2, 0, 0))
        self.assert_same(least_side(BELOW_NETWORK), (1, 0, 0, 0, 1, 0))
        self.assertEqual(right_worth(ABOVE_NETWORK, greatest_flow(ABOVE_NETWORK)), 3)
        self.assert_same(least_side(ABOVE_NETWORK), (1, 0, 1, 1, 1, 1))

    def test_one_letter_above_and_below_nought(self):
        above, below = network_of((((0,), 4),), 1), network_of((((0,), -4),), 1)
        self.assert_same((greatest_flow(above), least_side(above)), ((0,), (1, 0, 0)))
        self.assert_same((greatest_flow(below), least_side(below)), ((0,), (1, 0, 1)))

    def test_a_flow_that_must_be_led_back(self):
        # The straight way from 0 over 2 and 3 to 1 has to be given up for two others.
        network = (6, 0, ((0, 2, 1), (0, 4, 1), (2, 3, 1), (2, 5, 1), (3, 1, 1), (4, 3, 1), (5, 1, 1)))
        self.assert_same(greatest_flow(network), (1, 1, 0, 1, 1, 1, 1))
        self.assert_same(least_side(network), (1, 0, 0, 0, 0, 0))

    def test_the_yes_side_is_the_least_of_many(self):
        # Each arc of the chain is a least cut; the least side is at yes only at the yes end.
        network = (5, 0, ((0, 2, 3), (2, 3, 3), (3, 4, 3), (4, 1, 3)))
        self.assert_same(greatest_flow(network), (3, 3, 3, 3))
        self.assert_same(least_side(network), (1, 0, 0, 0, 0))
        wider = (5, 0, ((0, 2, 4), (2, 3, 4), (3, 4, 3), (4, 1, 3)))
        self.assert_same(least_side(wider), (1, 0, 1, 1, 0))

    def test_many_networks(self):
        for network in small_networks():
            flow, side = self.assert_greatest(network)
            least, cuts = least_cuts(network)
            self.assert_same(flow_worth(network, flow), least)
            # A least cut that is at no wherever one least cut is: what every greatest flow leads to.
            self.assertEqual(side, tuple([min(values) for values in zip(*cuts)]))
            self.assertIn(side, cuts)

    def test_the_base_and_the_greatest_worth_are_the_least_worth_of_the_sum(self):
        for told, count in bent_sums(250, 5, 8):
            network = network_of(told, count)
            worths = {row: worth(told, row) for row in rows(count)}
            self.assertEqual(network[1] + flow_worth(network, greatest_flow(network)), min(worths.values()))
            self.assertEqual(worths[least_side(network)[2:2 + count]], min(worths.values()))

    def test_networks_of_more_letters(self):
        source = random.Random(10)
        for letters in (12, 20, 30):
            for _ in range(4):
                self.assert_greatest(network_of(bent_sum(source, letters, 60, 999999), letters))

    def test_a_hundred_letters_and_four_hundred_members(self):
        source = random.Random(11)
        for sign in (-1, 1):
            numbers = {}
            for letter in range(100):
                numbers[(letter,)] = source.randint(-999999, 999999)
            while len(numbers) < 360:
                one, other, third = sorted(source.sample(range(100), 3))
                if sign == 1 and len(numbers) < 340:
                    number = source.randint(1, 999999)
                    numbers[(one, other, third)] = number
                    for pair in ((one, other), (one, third), (other, third)):
                        numbers[pair] = numbers.get(pair, 0) - number
                else:
                    numbers[(one, other)] = numbers.get((one, other), 0) - source.randint(1, 999999)
                    numbers[(one, other, third)] = numbers.get((one, other, third), 0) or -999999
            self.assert_greatest(network_of(tuple(sorted(numbers.items())), 100))


class BoundTest(FlowCase):

    def test_no_flow_is_worth_more_than_any_row_cuts(self):
        tried = 0
        for told, count in bent_sums(200, 3, 3, 1):
            network = network_of(told, count)
            if len(network[2]) > 8:
                continue
            least, _ = least_cuts(network)
            greatest = 0
            for flow in itertools.product(*[range(room + 1) for _, _, room in network[2]]):
                found = flow_worth(network, flow)
                if found is not None:
                    tried += 1
                    self.assertLessEqual(found, least)
                    greatest = max(greatest, found)
            self.assertEqual(greatest, least)
            self.assertEqual(flow_worth(network, greatest_flow(network)), greatest)
        self.assertGreater(tried, 200)

    def test_each_greatest_flow_leads_to_the_same_nodes(self):
        several = 0
        for told, count in bent_sums(600, 3, 6, 1):
            network = network_of(told, count)
            if len(network[2]) > 10:
                continue
            best = flow_worth(network, greatest_flow(network))
            found = [flow for flow in itertools.product(*[range(room + 1) for _, _, room in network[2]])
                     if flow_worth(network, flow) == best]
            several += len(found) > 1
            self.assertEqual({reached(network, flow) for flow in found}, {least_side(network)})
        self.assertGreater(several, 10)


class CallsTest(FlowCase):

    def test_equal_calls_return_equal_results(self):
        for one, other in zip(small_networks()[::5], small_networks()[::5]):
            self.assertEqual(greatest_flow(one), greatest_flow(other))
            self.assertEqual(greatest_flow(one), greatest_flow(one))
            self.assertEqual(least_side(one), least_side(other))

    def test_the_order_of_calls_does_not_matter(self):
        for network in small_networks()[::5]:
            side, flow = least_side(network), greatest_flow(network)
            self.assertEqual((greatest_flow(network), least_side(network)), (flow, side))


if __name__ == "__main__":
    unittest.main()
