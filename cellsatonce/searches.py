"""Searches: from a first node to all others that steps lead to.

A node is whatever a caller explores, as a tuple or a number. A row of pairs (step, node) tells
what steps there are from a node, and where they lead.
"""

from cellsatonce.errors import TooMany

# The index of the node behind a step that is not followed.
NOWHERE = -1


class Search:
    """The nodes that are reached from a first one, the nearest ones first.

    `nexts` gives the pairs of a node, in order, with None in place of the node where the step is
    not to be followed. `nodes` are the nodes, and `ways` has for each of them these pairs, with
    the index of the node in place of the node. `origins` has for each node the index of the one
    that it was reached from at first, and the step. Since the nearest nodes come first, and among
    equally near ones those with the first steps, this is the shortest way, and the first of those.
    """

    def __init__(self, first, nexts, limit):
        self.nodes = [first]
        self.origins = [(NOWHERE, ())]
        self.ways = []
        indexes = {first: 0}
        while len(self.ways) < len(self.nodes):
            at = len(self.ways)
            pairs = nexts(self.nodes[at])
            way = []
            for step, node in pairs:
                if node is None:
                    way.append((step, NOWHERE))
                    continue
                if node not in indexes:
                    if len(self.nodes) == limit:
                        raise TooMany(limit)
                    indexes[node] = len(self.nodes)
                    self.nodes.append(node)
                    self.origins.append((at, step))
                way.append((step, indexes[node]))
            self.ways.append(way)

    def path(self, index):
        """Give the steps to the node of this index, on its shortest way."""
        steps = []
        while index != 0:
            index, step = self.origins[index]
            steps.append(step)
        return steps[::-1]

    def shortest_break(self):
        """Give the shortest way to a step that is not followed, with that step, or None."""
        for at, way in enumerate(self.ways):
            for step, index in way:
                if index == NOWHERE:
                    return self.path(at) + [step]
        return None


def knots(ways):
    """Give for each node a number: two have the same one if each leads to the other.

    `ways` are those of a search, or some of them. No step leads to a node of a lower number.
    """
    origins = turned_round(ways)
    numbers = [NOWHERE for _ in ways]
    many = 0
    for root in reversed(left_order(ways)):
        if numbers[root] != NOWHERE:
            continue
        numbers[root] = many
        todo = [root]
        while len(todo) > 0:
            node = todo.pop()
            for origin in origins[node]:
                if numbers[origin] == NOWHERE:
                    numbers[origin] = many
                    todo.append(origin)
        many += 1
    return numbers


def turned_round(ways):
    """Give for each node the nodes from which a step leads to it."""
    origins = [[] for _ in ways]
    for at, way in enumerate(ways):
        for _, index in way:
            origins[index].append(at)
    return origins


def left_order(ways):
    """Give all nodes in the order in which they are left for good, going ahead as far as one can."""
    left = []
    known = set()
    for root in range(len(ways)):
        # Each entry is a node with the number of its steps that have been taken.
        trail = [] if root in known else [(root, 0)]
        known.add(root)
        while len(trail) > 0:
            node, taken = trail.pop()
            if taken == len(ways[node]):
                left.append(node)
                continue
            trail.append((node, taken + 1))
            _, index = ways[node][taken]
            if index not in known:
                known.add(index)
                trail.append((index, 0))
    return left
