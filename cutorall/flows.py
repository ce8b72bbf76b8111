"""Greatest flows of networks, and what they cut off."""

from cutorall.networks import NO_END, YES_END


class Ways:
    """The ways of a network: way 2 i goes along arc i, way 2 i + 1 back along it."""

    def __init__(self, network):
        node_count, _, arcs = network
        self.targets = []
        self.left = []
        self.leaving = [[] for _ in range(node_count)]
        for number, (source, target, room) in enumerate(arcs):
            self.targets.extend([target, source])
            self.left.extend([room, 0])
            self.leaving[source].append(2 * number)
            self.leaving[target].append(2 * number + 1)


def _levels(ways):
    """For each node how many ways with room left lead to it from the yes end, None if it is not reached."""
    levels = [None for _ in ways.leaving]
    levels[YES_END] = 0
    reached = [YES_END]
    while len(reached) > 0:
        further = []
        for node in reached:
            for way in ways.leaving[node]:
                target = ways.targets[way]
                if ways.left[way] > 0 and levels[target] is None:
                    levels[target] = levels[node] + 1
                    further.append(target)
        reached = further
    return levels


def _next_way(ways, levels, tried, node):
    """The first way that leaves the node, has room left and leads one level on, None if none is left."""
    leaving = ways.leaving[node]
    while tried[node] < len(leaving):
        way = leaving[tried[node]]
        if ways.left[way] > 0 and levels[ways.targets[way]] == levels[node] + 1:
            return way
        tried[node] += 1
    return None


def _fill(ways, path):
    """Sends as much as fits along the path."""
    room = min([ways.left[way] for way in path])
    for way in path:
        ways.left[way] -= room
        # The way back of 2 i is 2 i + 1, and that of 2 i + 1 is 2 i.
        ways.left[way ^ 1] += room


def _fill_levels(ways, levels):
    """Fills paths that rise by the levels until none of them is left."""
    tried = [0 for _ in levels]
    path = []
    node = YES_END
    while True:
        way = _next_way(ways, levels, tried, node)
        if way is not None:
            path.append(way)
            node = ways.targets[way]
        elif len(path) == 0:
            return
        else:
            # From this node nothing is reached any more, so the way to it is not tried again.
            back = path.pop()
            node = ways.targets[back ^ 1]
            tried[node] += 1
        if node == NO_END:
            _fill(ways, path)
            path = []
            node = YES_END


def _filled(network):
    """The ways of the network, filled by a greatest flow, and the levels that are still reached."""
    ways = Ways(network)
    levels = _levels(ways)
    while levels[NO_END] is not None:
        _fill_levels(ways, levels)
        levels = _levels(ways)
    return ways, levels


def greatest_flow(network):
    """Some flow of greatest worth."""
    ways, _ = _filled(network)
    # What is left back along an arc is what flows through it.
    return tuple(ways.left[1::2])


def least_side(network):
    """The row of the nodes' values that are yes where a way with room left leads when a greatest flow flows."""
    _, levels = _filled(network)
    return tuple([0 if level is None else 1 for level in levels])
