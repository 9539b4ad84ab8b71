import itertools
import random
import unittest

from cellsatonce.errors import TooMany
from cellsatonce.searches import NOWHERE, Search, knots
from helper import Case


def random_ways(source, many):
    """For each of so many nodes some numbered steps to others."""
    return [[(step, source.randrange(many)) for step in range(source.choice([0, 1, 1, 2, 3]))] for _ in range(many)]


def reached_from(ways, origin):
    found = [origin]
    for node in found:
        found.extend({index for _, index in ways[node]} - set(found))
    return set(found)


class SearchTest(Case):
    def test_the_shortest_ways_and_the_first_of_them(self):
        for seed in range(200):
            source = random.Random(seed)
            ways = random_ways(source, source.randint(1, 8))
            search = Search(0, lambda node: ways[node], len(ways))
            self.assertEqual(set(search.nodes), reached_from(ways, 0))
            self.assertEqual(len(search.nodes), len(set(search.nodes)))
            # All paths by their lengths, and those of one length in order.
            first = {0: []}
            level = [(0, [])]
            for _ in range(len(ways)):
                level = [(index, path + [step]) for node, path in level for step, index in ways[node]][:4000]
                for node, path in level:
                    first.setdefault(node, path)
            for at, node in enumerate(search.nodes):
                self.assertEqual(search.path(at), first[node])
            lengths = [len(search.path(at)) for at in range(len(search.nodes))]
            self.assertEqual(lengths, sorted(lengths))

    def test_ways_by_indexes(self):
        ways = {"a": [(1, "c"), (2, "b")], "b": [(3, None)], "c": [(4, "a"), (5, "c")]}
        search = Search("a", lambda node: ways[node], 3)
        self.assertEqual(search.nodes, ["a", "c", "b"])
        self.assertEqual(search.ways, [[(1, 1), (2, 2)], [(4, 0), (5, 1)], [(3, NOWHERE)]])
        self.assertEqual(search.shortest_break(), [2, 3])

    def test_no_break(self):
        self.assertIsNone(Search(0, lambda node: [(1, 0)], 1).shortest_break())

    def test_limits(self):
        self.raises(TooMany(4), lambda: Search(0, lambda node: [(1, node + 1)], 4))
        ways = [[(1, 1)], [(1, 2)], [(1, 0)]]
        self.assertEqual(Search(0, lambda node: ways[node], 3).nodes, [0, 1, 2])
        self.raises(TooMany(2), lambda: Search(0, lambda node: ways[node], 2))


class KnotsTest(Case):
    def test_random_ways(self):
        for seed in range(300):
            source = random.Random(seed)
            ways = random_ways(source, source.randint(1, 9))
            numbers = knots(ways)
            reached = [reached_from(ways, node) for node in range(len(ways))]
            for low, high in itertools.product(range(len(ways)), repeat=2):
                together = high in reached[low] and low in reached[high]
                self.assertEqual(numbers[low] == numbers[high], together)
                if high in reached[low]:
                    self.assertLessEqual(numbers[low], numbers[high])

    def test_a_long_chain(self):
        many = 3000
        ways = [[(0, at + 1)] for at in range(many - 1)] + [[]]
        self.assertEqual(knots(ways), list(range(many)))
        ways[-1] = [(0, 0)]
        self.assertEqual(knots(ways), [0] * many)


if __name__ == "__main__":
    unittest.main()
