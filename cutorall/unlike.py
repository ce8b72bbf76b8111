"""The price of unlike, two alike cells costing more than two unlike ones, written by a book whose side is all.

The ties that write it stand on four spots: NO and YES, which are to be no and yes, and the two cells ONE and OTHER.
"""

from math import gcd

from cutorall.basics import rows_of
from cutorall.errors import Undefined
from cutorall.kinds import fault_of
from cutorall.puzzles import Puzzle, total_of
from cutorall.sides import side
from cutorall.writing import written_price

NO = 0
YES = 1
ONE = 2
OTHER = 3
SPOT_COUNT = 4


def laid(ties, cells, many):
    """The ties, so many times, with the cell at each spot in the place of the spot."""
    return tuple([(price, tuple([cells[spot] for spot in spots]), many * times) for price, spots, times in ties])


def spread(book, ties):
    """What the ties cost together at most above the least that they may cost."""
    return sum([times * (max(book.prices[price].amounts) - book.prices[price].least()) for price, _, times in ties])


def is_mirrored(book):
    """Whether each price costs like amounts at each row and its opposite."""
    return all([price == price.opposite() for price in book.prices])


def _cost(book, ties, row):
    """What the ties on spots cost at the row of these."""
    return total_of(Puzzle(book, SPOT_COUNT, ties), row)


def _on(row, no, yes):
    """The spots for the places of the row: no where it has no, yes where it has yes."""
    return tuple([yes if value == 1 else no for value in row])


def _opposite(row):
    """The row with yes for no and no for yes."""
    return tuple([1 - value for value in row])


def _where_unlike(book):
    """The pair (price, row), row a cheapest one of the price where neither all no nor all yes is, or None."""
    for number, price in enumerate(book.prices):
        rows = price.cheapest_rows()
        if (0,) * price.size not in rows and (1,) * price.size not in rows:
            return number, rows[0]
    return None


def _where_turned(book):
    """The first pair (price, row) whose row costs less than its opposite."""
    for number, price in enumerate(book.prices):
        for row in rows_of(price.size):
            if price.cost(row) < price.cost(_opposite(row)):
                return number, row
    return None


def _constant_tie(book, value, spot):
    """A tie on the spot alone that costs less at the value than at its opposite."""
    for number, price in enumerate(book.prices):
        if price.cost((value,) * price.size) < price.cost((1 - value,) * price.size):
            return number, (spot,) * price.size, 1
    return None


def _gap(book, forcing):
    """How much more the ties cost at the other values of NO and YES than at no and yes, at least."""
    costs = [_cost(book, forcing, (no, yes, 0, 0)) for no, yes in ((0, 0), (1, 0), (1, 1))]
    return min(costs) - _cost(book, forcing, (0, 1, 0, 0))


def _forcing(book):
    """Ties on NO and YES that cost least at no and yes alone, of a book that is not mirrored and of no free kind."""
    found = _where_unlike(book)
    if found is None:
        # Then one of all no and all yes is cheapest in each price, and neither is in all of them.
        return _constant_tie(book, 0, NO), _constant_tie(book, 1, YES)
    unlike = (found[0], _on(found[1], NO, YES), 1)
    price = book.prices[found[0]]
    if price.cost(_opposite(found[1])) > price.least():
        return (unlike,)
    # NO and YES are unlike by the one tie, and not exchanged by the other, which must not outweigh the first.
    number, row = _where_turned(book)
    turned = (number, _on(row, NO, YES), 1)
    above = min(price.cost((0,) * price.size), price.cost((1,) * price.size)) - price.least()
    return laid((unlike,), (NO, YES), spread(book, (turned,)) // above + 1) + (turned,)


def _parting_tie(book):
    """A tie, if there is one, that alone costs alike at both no and both yes, and alike and less at the others."""
    for number, price in enumerate(book.prices):
        costs = price.amounts
        # Row and opposite stand as far from the one end as from the other.
        for row, cost, other in zip(rows_of(price.size), costs, costs[::-1]):
            if cost == other and costs[0] == costs[-1] and cost < costs[0]:
                return ((number, _on(row, ONE, OTHER), 1),)
    return ()


def _pull(book, word):
    """A tie on ONE, NO and YES that costs less at yes of ONE for "rising", at no of ONE for "falling"."""
    # A book that is of one of these kinds is of a free kind, too, so a book whose side is all has both faults.
    number, one, other = fault_of(book, word)
    # Where the rows are alike, NO and YES are the spots of no and yes.
    spots = [here if here == there else ONE for here, there in zip(one, other)]
    return number, tuple(spots), 1


def _apart(book):
    """A tie that costs less in all at ONE and OTHER unlike, both ways, than at both no and both yes."""
    number, one, other = fault_of(book, "bent")
    spots = [here if here == there else ONE if here == 1 else OTHER for here, there in zip(one, other)]
    return number, tuple(spots), 1


def _parting(book):
    """Ties on all spots that cost alike at both no and both yes, and less at ONE and OTHER unlike."""
    apart = _apart(book)
    lean = _cost(book, (apart,), (0, 1, 1, 1)) - _cost(book, (apart,), (0, 1, 0, 0))
    pull = _pull(book, "rising" if lean > 0 else "falling")
    strength = abs(_cost(book, (pull,), (0, 1, 0, 0)) - _cost(book, (pull,), (0, 1, 1, 0)))
    common = gcd(strength, lean)
    ties = ()
    for cells in ((NO, YES, ONE, OTHER), (NO, YES, OTHER, ONE)):
        ties += laid((apart,), cells, strength // common)
        if lean != 0:
            ties += laid((pull,), cells, abs(lean) // common)
    return ties


class Alike:
    """For a book whose side is all: ties that force NO and YES, if it takes any, and ties that part ONE and OTHER.

    With NO at no and YES at yes the parting ties cost alike wherever ONE and OTHER are unlike, and penalty more
    where they are alike. Of a mirrored book, which can force nothing, they stand on ONE and OTHER alone.
    """

    def __init__(self, book, fixed):
        self.book = book
        self.forcing = () if fixed or is_mirrored(book) else _forcing(book)
        self.parting = _parting_tie(book)
        if self.parting == ():
            self.parting = _parting(book)
        self.penalty = _cost(book, self.parting, (0, 1, 0, 0)) - _cost(book, self.parting, (0, 1, 0, 1))

    def forced(self, ties):
        """The forcing ties so many times that nothing is won by other values of NO and YES over these ties."""
        if self.forcing == ():
            return ()
        return laid(self.forcing, (NO, YES), spread(self.book, ties) // _gap(self.book, self.forcing) + 1)


def unlike_puzzle(book, *, fixed=False):
    """Some tuple (puzzle, start, cells, amount, penalty): the price of unlike that the puzzle writes at the cells."""
    if side(book, fixed=fixed) != ("all",):
        raise Undefined("kind")
    alike = Alike(book, fixed)
    puzzle = Puzzle(book, SPOT_COUNT, alike.forced(alike.parting) + alike.parting)
    start = ((NO, 0), (YES, 1)) if fixed else ()
    price = written_price(puzzle, (ONE, OTHER), start)
    amount = price.cost((0, 1))
    return puzzle, start, (ONE, OTHER), amount, price.cost((0, 0)) - amount
