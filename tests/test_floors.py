"""Point [15] and "cutorall/floors.py" in the interface."""

import inspect
import itertools
import random
import unittest

from cutorall import floors
from cutorall.books import Book
from cutorall.cheapest import floor_paper, least_total
from cutorall.doubled import doubled_sum
from cutorall.errors import InvalidNumber, InvalidStart
from cutorall.floors import floor_holds
from cutorall.flows import greatest_flow
from cutorall.kinds import is_kind
from cutorall.networks import flow_worth, network_of
from cutorall.prices import Price
from cutorall.puzzles import Puzzle, is_start
from cutorall.sums import is_bent, sum_of
from tests.cases import Case, is_plain
from tests.samples import (
    LIKE, RATHER_YES, SKEW, UNLIKE, any_puzzle, bent_puzzle, book_of_kind, cheapest_of, many_books, many_puzzles,
    puzzle_over, some_starts, starts_of, total)
from tests.strange import AlwaysEqual, any_values, nested

VALUES = {"all no": 0, "rising": 0, "all yes": 1, "falling": 1}


def put_in(start, cell, value):
    return tuple(sorted(start + ((cell, value),)))


def extreme(puzzle, start, value):
    """The filling that keeps the start and has every other cell at the value."""
    return tuple([dict(start).get(cell, value) for cell in range(puzzle.cell_count)])


def right_network(puzzle, start, form):
    """The network that a paper of this form speaks of, None if there is none."""
    if form == "doubled":
        return network_of(*doubled_sum(puzzle, start))
    told = sum_of(puzzle, start)
    return network_of(told, puzzle.cell_count) if is_bent(told) else None


def right_floor(puzzle, start, m, paper):
    """Whether paper is one of those that [15] lists, told as it tells them."""
    if type(paper) is not tuple or len(paper) not in (2, 4) or type(paper[0]) is not str:
        return False
    form = paper[0]
    if len(paper) == 2 and form == "kind":
        word = paper[1]
        if type(word) is not str or word not in VALUES or not is_kind(puzzle.book, word):
            return False
        if start != () and word.startswith("all"):
            return False
        return total(puzzle, extreme(puzzle, start, VALUES[word])) >= m
    if len(paper) == 2 and form in ("flow", "doubled"):
        network = right_network(puzzle, start, form)
        worth = None if network is None else flow_worth(network, paper[1])
        return worth is not None and network[1] + worth >= (m if form == "flow" else 2 * m - 1)
    if len(paper) == 4 and form == "split":
        cell = paper[1]
        if not is_plain(cell) or not 0 <= cell < puzzle.cell_count or cell in dict(start):
            return False
        return all([right_floor(puzzle, put_in(start, cell, value), m, paper[2 + value]) for value in (0, 1)])
    return False


def best_of(puzzle, start, form):
    """The greatest m of which a paper of one flow, in this form, tells, and the paper; (None, None) without one."""
    network = right_network(puzzle, start, form)
    if network is None:
        return None, None
    flow = greatest_flow(network)
    worth = network[1] + flow_worth(network, flow)
    return (worth if form == "flow" else (worth + 1) // 2), (form, flow)


def some_paper(source, puzzle, start, depth):
    """Some paper of the right form, which holds or not."""
    free = [cell for cell in range(puzzle.cell_count) if cell not in dict(start)]
    if free and depth and source.random() < 0.6:
        cell = source.choice(free)
        no, yes = [some_paper(source, puzzle, put_in(start, cell, value), depth - 1) for value in (0, 1)]
        return "split", cell, no, yes
    form = source.choice(("flow", "doubled", "kind"))
    if form != "kind":
        _, paper = best_of(puzzle, start, form)
        return paper if paper is not None else best_of(puzzle, start, "doubled")[1]
    words = [word for word in VALUES if is_kind(puzzle.book, word)]
    return "kind", source.choice(words or ["all no", "rising"])


def changed(source, value):
    """The paper with something in it changed, at some place or other."""
    if type(value) is tuple and value and source.random() < 0.9:
        place = source.randrange(len(value))
        inner = changed(source, value[place])
        return source.choice((value[:place] + (inner,) + value[place + 1:], value[:place] + (inner,) + value[place + 1:],
                              value[:place] + value[place + 1:], value + value[-1:], list(value)))
    if is_plain(value):
        return source.choice((value + 1, value - 1, -value, bool(value), str(value), None, value))
    return source.choice((None, "flow", "doubled", "kind", "rising", "falling", "bent", (), 0, value))


class FloorCase(Case):

    def assert_holds(self, puzzle, start, m, paper):
        """It holds just as [15] tells, and if so no filling costs less."""
        found = floor_holds(puzzle, start, m, paper)
        self.assertIs(found, right_floor(puzzle, start, m, paper), (m, paper))
        if found:
            self.assertLessEqual(m, cheapest_of(puzzle, start)[0])
        return found

    def assert_greatest(self, puzzle, start, m, paper):
        """m is just what the paper shows: it holds for m and below, not above."""
        self.assertIs(floor_holds(puzzle, start, m, paper), True)
        self.assertIs(floor_holds(puzzle, start, m - 1, paper), True)
        self.assertIs(floor_holds(puzzle, start, m - 10 ** 30, paper), True)
        self.assertIs(floor_holds(puzzle, start, m + 1, paper), False)
        self.assertIs(floor_holds(puzzle, start, m + 10 ** 30, paper), False)


class KindTest(FloorCase):

    def test_interface(self):
        self.assertEqual(floor_holds.__module__, "cutorall.floors")
        self.assertIs(floors.floor_holds, floor_holds)
        self.assertEqual(list(inspect.signature(floor_holds).parameters), ["puzzle", "start", "m", "paper"])
        puzzle = Puzzle(Book([Price(1, (1, 2))]), 1, [(0, (0,), 1)])
        self.assertIs(floor_holds(puzzle=puzzle, start=(), m=1, paper=("kind", "rising")), True)

    def test_each_word(self):
        # No and yes cost 2 and 5 in each; the row between is what makes the prices of different kinds.
        books = {"all no": Price(2, (2, 7, 7, 5)), "rising": Price(2, (2, 3, 4, 5)),
                 "all yes": Price(2, (5, 7, 7, 2)), "falling": Price(2, (5, 4, 3, 2))}
        for word in books:
            puzzle = Puzzle(Book([books[word]]), 3, [(0, (0, 1), 1), (0, (1, 2), 2)])
            self.assert_greatest(puzzle, (), 6, ("kind", word))
            for other in ("all no", "rising", "all yes", "falling", "bent", "any", ""):
                holds = other == word or (word, other) in (("rising", "all no"), ("falling", "all yes"))
                self.assertIs(floor_holds(puzzle, (), 6, ("kind", other)), holds)

    def test_all_no_and_all_yes_want_the_empty_start(self):
        no, yes = Price(1, (1, 2)), Price(1, (2, 1))
        for price, free, fixed in ((no, "all no", "rising"), (yes, "all yes", "falling")):
            puzzle = Puzzle(Book([price]), 2, [(0, (0,), 1), (0, (1,), 1)])
            for start in starts_of(2):
                m = cheapest_of(puzzle, start)[0]
                self.assertIs(floor_holds(puzzle, start, m, ("kind", free)), start == ())
                self.assert_greatest(puzzle, start, m, ("kind", fixed))

    def test_below_a_split_the_start_is_not_empty(self):
        puzzle = Puzzle(Book([Price(1, (1, 2))]), 2, [(0, (0,), 1)])
        self.assertIs(floor_holds(puzzle, (), 1, ("split", 1, ("kind", "rising"), ("kind", "rising"))), True)
        for no, yes in itertools.product(("all no", "rising"), repeat=2):
            paper = ("split", 1, ("kind", no), ("kind", yes))
            self.assertIs(floor_holds(puzzle, (), 1, paper), (no, yes) == ("rising", "rising"))

    def test_books_of_each_kind_and_of_none(self):
        source = random.Random(1)
        held = {word: 0 for word in VALUES}
        for book in many_books(210):
            puzzle = puzzle_over(source, book, source.randint(0, 4), source.randint(0, 4))
            for start in some_starts(puzzle.cell_count, source, 1):
                least = cheapest_of(puzzle, start)[0]
                for word in (*VALUES, "bent"):
                    self.assert_holds(puzzle, start, least + 1, ("kind", word))
                    if self.assert_holds(puzzle, start, least, ("kind", word)):
                        held[word] += 1
        self.assertGreater(min(held.values()), 30)

    def test_strange_words(self):
        puzzle = Puzzle(Book([Price(1, (1, 1))]), 1, [(0, (0,), 1)])
        for word in any_values():
            self.assertIs(floor_holds(puzzle, (), 1, ("kind", word)), False)
            self.assertIs(floor_holds(puzzle, (), 1, (word, "rising")), False)
        for paper in (("kind",), ("kind", "rising", 1), ["kind", "rising"], ("kind", ["rising"]), ("kind", ("rising",)),
                      "rising", ("rising",), (("kind", "rising"),), ("Kind", "rising"), ("kind", "Rising")):
            self.assertIs(floor_holds(puzzle, (), 1, paper), False)
        self.assertIs(floor_holds(puzzle, (), 1, ("kind", "rising")), True)


class FlowTest(FloorCase):

    def test_bent_sums(self):
        source = random.Random(2)
        for number in range(80):
            puzzle = bent_puzzle(source, number % 5, 5)
            for start in some_starts(puzzle.cell_count, source, 2):
                m, paper = best_of(puzzle, start, "flow")
                self.assertEqual(m, cheapest_of(puzzle, start)[0])
                self.assert_greatest(puzzle, start, m, paper)

    def test_sums_that_are_not_bent(self):
        puzzle = Puzzle(Book([UNLIKE]), 2, [(0, (0, 1), 1)])
        for flow in ((), (0,), (0, 0), (0, 0, 0), (0, 0, 0, 0), None):
            self.assertIs(floor_holds(puzzle, (), -5, ("flow", flow)), False)
        # With a cell fixed it is bent: 1 where the cells are alike, the cell 0 being no.
        self.assertEqual(right_network(puzzle, ((0, 0),), "flow"), (4, 0, ((0, 3, 1),)))
        self.assert_greatest(puzzle, ((0, 0),), 0, ("flow", (0,)))

    def test_flows_that_are_not_greatest(self):
        puzzle = Puzzle(Book([LIKE, RATHER_YES, Price(1, (0, 3))]), 2, [(0, (0, 1), 1), (1, (0,), 2), (2, (1,), 1)])
        network = right_network(puzzle, (), "flow")
        told = set()
        for flow in itertools.product(*[range(room + 1) for _, _, room in network[2]]):
            worth = flow_worth(network, flow)
            if worth is None:
                self.assertIs(floor_holds(puzzle, (), -100, ("flow", flow)), False)
            else:
                told.add(network[1] + worth)
                self.assert_greatest(puzzle, (), network[1] + worth, ("flow", flow))
        self.assertEqual(max(told), cheapest_of(puzzle, ())[0])
        self.assertGreater(len(told), 3)

    def test_no_cells_and_no_ties(self):
        for cell_count in range(3):
            puzzle = Puzzle(Book([SKEW]), cell_count, ())
            for start in starts_of(cell_count):
                self.assert_greatest(puzzle, start, 0, ("flow", ()))
                self.assert_greatest(puzzle, start, 0, ("doubled", ()))
        self.assertIs(floor_holds(Puzzle(Book([SKEW]), 0, ()), (), 0, ("kind", "rising")), False)
        self.assertIs(floor_holds(Puzzle(Book([LIKE]), 0, ()), (), 0, ("kind", "all no")), True)

    def test_starts_that_fix_all_cells(self):
        for puzzle in many_puzzles(20, 3):
            for start in [start for start in starts_of(puzzle.cell_count) if len(start) == puzzle.cell_count]:
                m = total(puzzle, tuple([value for _, value in start]))
                self.assert_greatest(puzzle, start, m, ("flow", ()))
                self.assert_greatest(puzzle, start, m, ("doubled", ()))
                for cell in range(-1, puzzle.cell_count + 1):
                    self.assertIs(floor_holds(puzzle, start, m, ("split", cell, ("flow", ()), ("flow", ()))), False)

    def test_changed_flows(self):
        source = random.Random(3)
        tried = 0
        for form in ("flow", "doubled"):
            for _ in range(25):
                puzzle = bent_puzzle(source, 3, 4)
                m, (_, flow) = best_of(puzzle, (), form)
                for place in range(len(flow)):
                    for other in (flow[place] + 1, flow[place] - 1, bool(flow[place]), None, str(flow[place]), -1):
                        tried += 1
                        self.assert_holds(puzzle, (), m, (form, flow[:place] + (other,) + flow[place + 1:]))
                if flow:
                    for other in (list(flow), flow[:-1], flow + (0,), (flow,), (), None):
                        self.assertIs(floor_holds(puzzle, (), m, (form, other)), False)
                self.assertIs(floor_holds(puzzle, (), m, [form, flow]), False)
                self.assertIs(floor_holds(puzzle, (), m, (form, flow, 0)), False)
                self.assertIs(floor_holds(puzzle, (), m, (form,)), False)
        self.assertGreater(tried, 500)

    def test_bools_for_the_numbers_of_a_flow(self):
        puzzle = Puzzle(Book([UNLIKE]), 2, [(0, (0, 1), 1)])
        start = ((0, 0),)
        self.assertIs(floor_holds(puzzle, start, 0, ("flow", (0,))), True)
        self.assertIs(floor_holds(puzzle, start, 0, ("flow", (False,))), False)
        self.assertIs(floor_holds(puzzle, start, 0, ("flow", (True,))), False)
        count = len(greatest_flow(right_network(puzzle, (), "doubled")))
        self.assertIs(floor_holds(puzzle, (), -100, ("doubled", (0,) * count)), True)
        self.assertIs(floor_holds(puzzle, (), -100, ("doubled", (0,) * (count - 1) + (False,))), False)


class DoubledTest(FloorCase):

    def test_just_the_half_rounded_up(self):
        source = random.Random(4)
        halves = {0: 0, 1: 0}
        for number in range(200):
            puzzle = any_puzzle(source, number % 5, 3)
            for start in some_starts(puzzle.cell_count, source, 1):
                network = right_network(puzzle, start, "doubled")
                twice = network[1] + flow_worth(network, greatest_flow(network))
                halves[twice - 2 * (twice // 2)] += 1
                m, paper = best_of(puzzle, start, "doubled")
                self.assertEqual(m, -(-twice // 2))
                self.assert_greatest(puzzle, start, m, paper)
                self.assertLessEqual(m, cheapest_of(puzzle, start)[0])
        self.assertGreater(min(halves.values()), 5)

    def test_the_triangle(self):
        puzzle = Puzzle(Book([UNLIKE]), 3, [(0, (0, 1), 1), (0, (1, 2), 1), (0, (2, 0), 1)])
        self.assertEqual(cheapest_of(puzzle, ())[0], 1)
        m, paper = best_of(puzzle, (), "doubled")
        self.assertEqual(m, 0)
        self.assert_greatest(puzzle, (), 0, paper)
        parts = [best_of(puzzle, ((1, value),), "doubled") for value in (0, 1)]
        self.assert_greatest(puzzle, (), min(parts)[0], ("split", 1, parts[0][1], parts[1][1]))
        self.assert_greatest(puzzle, (), 1, floor_paper(puzzle))


class SplitTest(FloorCase):

    def test_where_it_may_split(self):
        puzzle = Puzzle(Book([Price(1, (0, 0))]), 3, ())
        flow = ("flow", ())
        for cell in (*range(-2, 6), *any_values()):
            for start in starts_of(3):
                right = is_plain(cell) and 0 <= cell < 3 and cell not in dict(start)
                self.assertIs(floor_holds(puzzle, start, 0, ("split", cell, flow, flow)), right, (cell, start))

    def test_no_cell_twice(self):
        puzzle = Puzzle(Book([Price(1, (0, 0))]), 3, ())
        flow = ("flow", ())
        for cells in itertools.product(range(3), repeat=3):
            paper = flow
            for cell in cells:
                paper = ("split", cell, flow, paper)
            self.assertIs(floor_holds(puzzle, (), 0, paper), len(set(cells)) == 3)

    def test_both_papers_exchanged(self):
        # With the first cell at no the others want yes alike; with it at yes they want unlike values.
        puzzle = Puzzle(Book([UNLIKE, LIKE, RATHER_YES]), 3, [(0, (0, 1), 3), (1, (1, 2), 1), (2, (2,), 1)])
        no, yes = floor_paper(puzzle, ((0, 0),)), floor_paper(puzzle, ((0, 1),))
        self.assertEqual([least_total(puzzle, ((0, value),)) for value in (0, 1)], [0, 2])
        self.assert_greatest(puzzle, ((0, 0),), 0, no)
        self.assert_greatest(puzzle, ((0, 1),), 2, yes)
        self.assert_greatest(puzzle, (), 0, ("split", 0, no, yes))
        for m in (-10, 0):
            self.assertIs(self.assert_holds(puzzle, (), m, ("split", 0, yes, no)), False)
            self.assertIs(self.assert_holds(puzzle, (), m, ("split", 0, yes, yes)), False)

    def test_both_sides_must_hold(self):
        puzzle = Puzzle(Book([Price(1, (1, 2))]), 2, [(0, (0,), 1), (0, (1,), 1)])
        no, yes = ("flow", (0,)), ("flow", (0,))
        self.assertEqual(right_network(puzzle, ((0, 0),), "flow"), (4, 2, ((3, 1, 1),)))
        self.assert_greatest(puzzle, (), 2, ("split", 0, no, yes))
        self.assertIs(floor_holds(puzzle, (), 2, ("split", 0, no, None)), False)
        self.assertIs(floor_holds(puzzle, (), 2, ("split", 0, None, yes)), False)
        self.assertIs(floor_holds(puzzle, (), 2, ["split", 0, no, yes]), False)
        self.assertIs(floor_holds(puzzle, (), 2, ("split", 0, no, list(yes))), False)
        self.assertIs(floor_holds(puzzle, (), 2, ("split", 0, no)), False)
        self.assertIs(floor_holds(puzzle, (), 2, ("split", 0, no, yes, yes)), False)
        self.assertIs(floor_holds(puzzle, (), 2, ("part", 0, no, yes)), False)

    def test_splits_within_splits(self):
        puzzle = Puzzle(Book([UNLIKE]), 3, [(0, (0, 1), 1), (0, (1, 2), 1), (0, (2, 0), 1)])
        papers = {}
        for one, other in itertools.product((0, 1), repeat=2):
            papers[one, other] = floor_paper(puzzle, ((0, one), (2, other)))
        paper = ("split", 2, ("split", 0, papers[0, 0], papers[1, 0]), ("split", 0, papers[0, 1], papers[1, 1]))
        self.assert_greatest(puzzle, (), 1, paper)
        crossed = ("split", 2, ("split", 0, papers[0, 1], papers[1, 0]), ("split", 0, papers[0, 1], papers[1, 1]))
        self.assert_holds(puzzle, (), 1, crossed)

    def test_splits_at_thirty_cells(self):
        puzzle = Puzzle(Book([Price(1, (3, 4))]), 30, [(0, (29,), 1)])
        paper = ("kind", "rising")
        for cell in range(30):
            paper = ("split", cell, ("kind", "rising"), paper)
        self.assert_greatest(puzzle, (), 3, paper)
        self.assertIs(floor_holds(puzzle, ((7, 0),), 3, paper), False)


class ManyTest(FloorCase):

    def test_some_papers_and_changed_ones(self):
        source = random.Random(5)
        held = refused = 0
        for book in many_books(140, 21):
            puzzle = puzzle_over(source, book, source.randint(0, 4), source.randint(0, 5))
            for start in some_starts(puzzle.cell_count, source, 1):
                least = cheapest_of(puzzle, start)[0]
                paper = some_paper(source, puzzle, start, 3)
                for m in (least - 1, least, least + 1):
                    held += self.assert_holds(puzzle, start, m, paper)
                    for _ in range(4):
                        refused += not self.assert_holds(puzzle, start, m, changed(source, paper))
        self.assertGreater(held, 300)
        self.assertGreater(refused, 1000)

    def test_papers_of_other_starts_and_puzzles(self):
        source = random.Random(6)
        for puzzle in many_puzzles(40, 4):
            starts = some_starts(puzzle.cell_count, source, 2)
            papers = [floor_paper(puzzle, start) for start in starts]
            for start, paper in itertools.product(starts, papers):
                for m in (least_total(puzzle, start), least_total(puzzle, start) + 1):
                    self.assert_holds(puzzle, start, m, paper)
            for other in many_puzzles(3, 4):
                for m in (0, cheapest_of(other, ())[0], cheapest_of(other, ())[0] + 1):
                    self.assert_holds(other, (), m, papers[0])


class ErrorTest(FloorCase):

    def test_any_value_as_paper(self):
        puzzle = Puzzle(Book([UNLIKE]), 2, [(0, (0, 1), 1)])
        for paper in (*any_values(), nested(tuple, 30), nested(list, 30)):
            for form in (paper, ("flow", paper), ("doubled", paper), ("kind", paper), ("split", 0, paper, paper),
                         ("split", paper, ("flow", ()), ("flow", ())), (paper, 0, ("flow", ()), ("flow", ()))):
                self.assertIs(floor_holds(puzzle, (), -10, form), right_floor(puzzle, (), -10, form), form)

    def test_any_value_as_start(self):
        puzzle = Puzzle(Book([LIKE]), 2, [(0, (0, 1), 1)])
        for start in (*any_values(), [], [(0, 1)], ((1, 0), (0, 0)), ((2, 0),), ((0, 2),), ((0, True),), ((True, 0),)):
            if not is_start(puzzle, start):
                self.assert_wrong(InvalidStart, start, floor_holds, puzzle, start, 0, ("flow", ()))
                self.assert_wrong(InvalidStart, start, floor_holds, puzzle=puzzle, start=start, m=None, paper=None)

    def test_any_value_as_number(self):
        puzzle = Puzzle(Book([LIKE]), 2, [(0, (0, 1), 1)])
        for m in (*any_values(), AlwaysEqual()):
            if is_plain(m):
                self.assertIs(floor_holds(puzzle, (), m, ("kind", "all no")), m <= 0)
            else:
                for paper in (("kind", "all no"), None, ("split",)):
                    self.assert_wrong(InvalidNumber, m, floor_holds, puzzle, (), m, paper)
                    self.assert_wrong(InvalidNumber, m, floor_holds, puzzle=puzzle, start=((0, 1),), m=m, paper=paper)

    def test_the_order_of_errors(self):
        puzzle = Puzzle(Book([LIKE]), 2, [(0, (0, 1), 1)])
        for start in (None, [], True, ((0, True),)):
            self.assert_wrong(InvalidStart, start, floor_holds, puzzle, start, True, ("kind", "all no"))

    def test_equal_calls_return_equal_results(self):
        source = random.Random(7)
        for one, other in zip(many_puzzles(20), many_puzzles(20)):
            paper = some_paper(source, one, (), 2)
            for m in (-3, 0, 3):
                self.assertIs(floor_holds(one, (), m, paper), floor_holds(other, (), m, paper))
                self.assertIs(floor_holds(one, (), m, paper), floor_holds(one, (), m, paper))

    def test_as_large_as_may_be(self):
        source = random.Random(8)
        puzzle = bent_puzzle(source, 30, 100)
        m, paper = best_of(puzzle, (), "flow")
        self.assert_greatest(puzzle, (), m, paper)
        rising = puzzle_over(source, book_of_kind(source, "rising", 999999), 30, 100)
        start = tuple([(cell, cell % 2) for cell in range(0, 30, 3)])
        self.assert_greatest(rising, start, total(rising, extreme(rising, start, 0)), ("kind", "rising"))


if __name__ == "__main__":
    unittest.main()
