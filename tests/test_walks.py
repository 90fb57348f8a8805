"""The search for walks, against all walks tried out; what it tells is not part of the interface."""

import random
import unittest
from itertools import product

from ringsdecide.bits import Joins, bits_of
from ringsdecide.built import distance_kind, level_kind, order_kind, sum_kind
from ringsdecide.walks import lacking_walk, links_of
from tests.helpers import Case, slow_ends, some_network


def slow_walks(network, u, v, most):
    """All walks from u to v with at most so many steps, the shortest ones first."""
    for steps in range(1, most + 1):
        for between in product(range(network.places), repeat=steps - 1):
            walk = (u,) + between + (v,)
            if all(a != b and network.between(a, b) is not None for a, b in zip(walk, walk[1:])):
                yield walk


class Walks(Case):
    def test_links(self):
        kind = order_kind()
        told = [(0, 1, bits_of([0])), (2, 1, bits_of([0, 1]))]
        self.assertEqual(links_of(kind, 4, told), [[(1, 1)], [(0, 2), (2, 3)], [(1, 3)], []])

    def test_lacking_walk(self):
        chance = random.Random(3)
        found = 0
        for kind in [order_kind(), level_kind(3), distance_kind((1, 2, 3)), sum_kind(3)]:
            for _ in range(12):
                network = some_network(chance, kind, 4, 0.6)
                links = links_of(kind, 4, [(u, v, 1 << x) for u, v, x in network.told])
                u, v = chance.sample(range(4), 2)
                x = chance.randrange(kind.relations)
                told = lacking_walk(Joins(kind), links, {(u, v): x})
                fits = [walk for walk in slow_walks(network, u, v, 5)
                        if x not in slow_ends(kind, [network.between(a, b) for a, b in zip(walk, walk[1:])])]
                if told is None:
                    self.assertEqual(fits, [])
                else:
                    found += 1
                    self.assertIn(told, fits)
                    self.assertEqual(len(told), len(fits[0]))
        self.assertGreater(found, 8)

    def test_no_targets_and_no_links(self):
        joins = Joins(order_kind())
        self.assertIsNone(lacking_walk(joins, [[], [], []], {(0, 2): 1}))
        self.assertIsNone(lacking_walk(joins, [[(1, 1)], [(0, 2)]], {}))


if __name__ == "__main__":
    unittest.main()
