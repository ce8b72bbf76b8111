"""Networks of bent sums, whose least cut is the least worth, and flows in them."""

from cutorall.basics import is_integer
from cutorall.errors import InvalidSum, Undefined
from cutorall.sums import add_to, is_bent, is_sum, pairs_of

YES_END = 0
NO_END = 1
# The node of letter 0; those of the other letters and the helpers stand behind it.
FIRST_LETTER = 2


def _add_triple(letters, number, helper, numbers, rooms):
    """Puts a triple's number into the rooms of its helper's arcs, and into the numbers of nodes and pairs."""
    if number < 0:
        for letter in letters:
            add_to(rooms, (helper, FIRST_LETTER + letter), -number)
    else:
        for letter in letters:
            add_to(numbers, (FIRST_LETTER + letter,), -number)
            add_to(rooms, (FIRST_LETTER + letter, helper), number)
        for one, other in pairs_of(letters):
            add_to(numbers, (FIRST_LETTER + one, FIRST_LETTER + other), number)
    add_to(numbers, (helper,), number)


def _add_pairs(numbers, rooms):
    """Puts the numbers of pairs of nodes into the rooms of arcs and the numbers of single nodes."""
    for nodes in list(numbers):
        if len(nodes) == 2:
            add_to(numbers, nodes[:1], numbers[nodes])
            add_to(rooms, nodes, -numbers[nodes])


def _add_singles(numbers, rooms):
    """Puts the numbers of single nodes into the rooms of arcs at the ends; answers what comes to the base."""
    base = 0
    for nodes in list(numbers):
        if len(nodes) == 1 and numbers[nodes] > 0:
            add_to(rooms, (nodes[0], NO_END), numbers[nodes])
        elif len(nodes) == 1:
            add_to(rooms, (YES_END, nodes[0]), -numbers[nodes])
            base += numbers[nodes]
    return base


def network_of(told, letter_count):
    """The network (node_count, base, arcs) of the bent sum over so many letters."""
    if not is_sum(told, letter_count):
        raise InvalidSum(told)
    if not is_bent(told):
        raise Undefined("bent")
    base = 0
    node_count = FIRST_LETTER + letter_count
    numbers = {}
    rooms = {}
    for letters, number in told:
        if len(letters) == 0:
            base += number
        elif len(letters) == 3:
            _add_triple(letters, number, node_count, numbers, rooms)
            node_count += 1
        else:
            add_to(numbers, tuple([FIRST_LETTER + letter for letter in letters]), number)
    _add_pairs(numbers, rooms)
    base += _add_singles(numbers, rooms)
    arcs = [(nodes[0], nodes[1], rooms[nodes]) for nodes in sorted(rooms) if rooms[nodes] != 0]
    return node_count, base, tuple(arcs)


def _fits(value, arcs):
    """Whether value is a tuple with for each arc a number up to its room."""
    if not isinstance(value, tuple) or len(value) != len(arcs):
        return False
    return all([is_integer(given) and 0 <= given <= arc[2] for given, arc in zip(value, arcs)])


def flow_worth(network, flow):
    """What the yes end gives by the flow, None if it is no flow of the network."""
    node_count, _, arcs = network
    if not _fits(flow, arcs):
        return None
    given = [0] * node_count
    for (source, target, _), number in zip(arcs, flow):
        given[source] += number
        given[target] -= number
    if any([number != 0 for number in given[FIRST_LETTER:]]):
        return None
    return given[YES_END]
