"""[21]: rings, bare ones, and whether they can be completed."""

import random
import unittest
from itertools import combinations, permutations, product

from ringsdecide.built import distance_kind, free_kind, level_kind, order_kind, sector_kind, sum_kind
from ringsdecide.errors import RingsError
from ringsdecide.gluing import glues
from ringsdecide.kinds import Kind
from ringsdecide.networks import Network, tried_completion
from ringsdecide.rings import bare_rings, is_bare, is_ring, ring_can, ring_network
from tests.helpers import (
    ODD_VALUES, Case, EqualToAll, all_but_threes, slow_is_bare, slow_ring_can, slow_rings, small_kinds, some_kinds,
    some_network,
)


def ring_of(kind, word):
    """The network of a ring with these relations from each place to the next one."""
    return Network(kind, len(word), [(at, (at + 1) % len(word), x) for at, x in enumerate(word)])


class Rings(Case):
    def some_networks(self, places, count, seed):
        chance = random.Random(seed)
        for at in range(count):
            yield some_network(chance, order_kind(), places, (at % 10 + 1) / 10)

    def test_is_ring(self):
        for network in self.some_networks(5, 20, 1):
            rings = set(slow_rings(network))
            for many in range(6):
                for value in permutations(range(5), many):
                    turned = [value[at:] + value[:at] for at in range(many)]
                    turned += [value[::-1][at:] + value[::-1][:at] for at in range(many)]
                    self.assertIs(is_ring(network=network, value=value), any(ring in rings for ring in turned))

    def test_is_ring_of_any_value(self):
        network = Network(free_kind(1), 4, [(u, v, 0) for u, v in combinations(range(4), 2)])
        self.assertIs(is_ring(network, (0, 1, 2)), True)
        self.assertIs(is_ring(network, (3, 1, 0, 2)), True)
        for value in ODD_VALUES + [
            [0, 1, 2], (0, 1), (0,), (0, 1, 1), (0, 1, 0, 2), (0, 1, 4), (0, 1, -1), (False, 1, 2), (0, True, 2),
            (0, 1, 2.0), (0, 1, "2"), ((0, 1, 2),), (0, 1, 2, 3, 0), (0, 1, None), (0, 1, EqualToAll()),
            (0, 1, [2]), tuple(range(5)),
        ]:
            self.assertIs(is_ring(network, value), False)

    def test_a_pair_untold(self):
        network = Network(order_kind(), 4, [(0, 1, 0), (2, 1, 0), (3, 2, 1)])
        self.assertIs(is_ring(network, (0, 1, 2, 3)), False)
        self.assertIs(is_ring(network, (1, 2, 3, 0)), False)
        closed = Network(order_kind(), 4, network.told + ((3, 0, 0),))
        self.assertIs(is_ring(closed, (0, 1, 2, 3)), True)
        self.assertIs(is_ring(closed, (2, 1, 0, 3)), True)
        self.assertIs(is_ring(closed, (0, 2, 1, 3)), False)
        self.assertIs(is_ring(closed, (0, 1, 2)), False)

    def test_is_bare(self):
        for network in self.some_networks(6, 20, 2):
            for ring in slow_rings(network):
                for at in (0, 1, len(ring) - 1):
                    turned = ring[at:] + ring[:at]
                    told = slow_is_bare(network, ring)
                    self.assertIs(is_bare(network=network, ring=turned), told)
                    self.assertIs(is_bare(network, turned[::-1]), told)

    def test_forty_places_in_a_ring(self):
        network = ring_of(order_kind(), [0] * 40)
        ring = tuple(range(40))
        self.assertIs(is_ring(network, ring), True)
        self.assertIs(is_bare(network, ring), True)
        for told in [(0, 2, 0), (38, 0, 0), (5, 30, 1), (1, 39, 0)]:
            self.assertIs(is_bare(Network(order_kind(), 40, network.told + (told,)), ring), False)

    def test_bare_rings(self):
        for places, count in ((3, 20), (4, 30), (5, 30), (6, 30), (7, 12)):
            for network in self.some_networks(places, count, places):
                found = bare_rings(network=network)
                self.all_tuples(found)
                self.assertEqual(found, tuple(sorted(r for r in slow_rings(network) if slow_is_bare(network, r))))
                for ring in found:
                    self.assertIs(is_ring(network, ring) and is_bare(network, ring), True)

    def test_bare_rings_of_few_told_pairs(self):
        kind = order_kind()
        for network in [Network(kind, 1, []), Network(kind, 2, []), Network(kind, 2, [(0, 1, 0)]),
                        Network(kind, 3, [(0, 1, 0), (1, 2, 0)]), Network(kind, 12, [])]:
            self.assertEqual(bare_rings(network), ())
        self.assertEqual(bare_rings(Network(kind, 3, [(2, 1, 0), (0, 1, 0), (2, 0, 0)])), ((0, 1, 2),))

    def test_bare_rings_of_twelve_places(self):
        kind = free_kind(2)
        every = list(combinations(range(12), 2))
        self.assertEqual(
            self.soon(bare_rings, Network(kind, 12, [(u, v, 0) for u, v in every])),
            tuple(combinations(range(12), 3)),
        )
        two_sides = [(u, v, 1) for u in range(6) for v in range(6, 12)]
        found = self.soon(bare_rings, Network(kind, 12, two_sides))
        self.assertEqual(found, tuple(sorted(
            (a, c, b, d) for a, b in combinations(range(6), 2) for c, d in combinations(range(6, 12), 2)
        )))
        self.assertEqual(bare_rings(ring_of(kind, [0] * 12)), (tuple(range(12)),))
        four_by_three = [(4 * row + at, 4 * (row + 1) + other, 0) for row in range(2) for at in range(4)
                         for other in range(4)] + [(at, 8 + other, 1) for at in range(4) for other in range(4)]
        found = self.soon(bare_rings, Network(kind, 12, four_by_three))
        self.assertEqual(found, tuple(sorted(found)))
        self.assertEqual(len(found), len(set(found)))
        self.assertEqual(sum(len(ring) == 3 for ring in found), 64)
        self.assertEqual(sum(len(ring) == 4 for ring in found), 3 * 36)
        self.assertEqual(len(found), 64 + 108)
        chance = random.Random(12)
        for share in (0.2, 0.3, 0.5):
            network = some_network(chance, kind, 12, share)
            found = self.soon(bare_rings, network)
            self.assertEqual(found, tuple(sorted(set(found))))
            for ring in found:
                self.assertEqual(ring[0], min(ring))
                self.assertLess(ring[1], ring[-1])
                self.assertIs(slow_is_bare(network, ring) and is_ring(network, ring), True)

    def test_ring_network(self):
        kind = sum_kind(5)
        network = Network(kind, 6, [(0, 3, 1), (3, 5, 2), (5, 2, 3), (2, 0, 4), (0, 5, 2)])
        self.assertEqual(ring_network(network=network, ring=(3, 5, 2, 0)),
                         Network(kind, 4, [(0, 1, 2), (1, 2, 3), (2, 3, 4), (3, 0, 1)]))
        self.assertEqual(ring_network(network, (0, 5, 3)), Network(kind, 3, [(0, 1, 2), (1, 2, 3), (2, 0, 4)]))
        self.assertEqual(ring_network(network, (0, 5, 3)).told, ((0, 1, 2), (0, 2, 1), (1, 2, 3)))

    def test_ring_can(self):
        chance = random.Random(9)
        for kind in small_kinds() + [sector_kind(3), level_kind(3), distance_kind((1, 2, 4)), sum_kind(4)]:
            for many in (3, 4, 5):
                for _ in range(6):
                    network = ring_of(kind, [chance.randrange(kind.relations) for _ in range(many)])
                    ring = list(range(many))
                    at = chance.randrange(many)
                    ring = tuple(ring[at:] + ring[:at])[::chance.choice((1, -1))]
                    self.assertIs(ring_can(network=network, ring=ring), slow_ring_can(network, ring))

    def test_ring_can_looks_at_the_ring_alone(self):
        kind = order_kind()
        told = [(0, 1, 0), (1, 2, 0), (2, 3, 0), (0, 3, 0), (0, 2, 1)]
        network = Network(kind, 4, told)
        self.assertIs(ring_can(network, (0, 1, 2, 3)), True)
        self.assertIs(ring_can(network, (0, 1, 2)), False)
        self.assertIsNone(tried_completion(network))

    def test_eight_places_of_kinds_that_do_not_glue(self):
        # Of six places some three have the same relation told, so no ring of six can be completed.
        kind = all_but_threes(2)
        self.assertIs(glues(kind), False)
        for many in (3, 4, 5, 6, 7, 8):
            for word in [(0, 1) * 4, (0, 0, 1, 1) * 2, (1, 0, 0, 1, 0, 1, 1, 0)]:
                told = self.soon(ring_can, ring_of(kind, word[:many]), tuple(range(many)))
                self.assertIs(told, slow_ring_can(ring_of(kind, word[:many]), tuple(range(many))))
                self.assertTrue(many < 6 or not told)
        chance = random.Random(8)
        for kind in [kind for kind in some_kinds(4, 40, 5) if not glues(kind)][:8] + [distance_kind((1, 2, 4))]:
            for _ in range(5):
                network = ring_of(kind, [chance.randrange(kind.relations) for _ in range(8)])
                told = self.soon(ring_can, network, tuple(range(8)))
                self.assertIs(told, tried_completion(network) is not None)

    def test_forty_places_of_kinds_that_glue(self):
        ring = tuple(range(40))
        for kind, good, wrong in [
            (order_kind(), [0] * 39 + [1], [0] * 40),
            (order_kind(), [1, 0] * 20, [1] * 40),
            (sum_kind(5), [1] * 40, [1] * 39 + [2]),
            (level_kind(5), [0] * 38 + [4, 4], [0] * 39 + [4]),
            (distance_kind((1, 2, 3)), [0] * 39 + [2], None),
            (sector_kind(3), [2] * 40, None),
        ]:
            self.assertIs(glues(kind), True)
            for at in (0, 17):
                self.assertIs(self.soon(ring_can, ring_of(kind, good), ring[at:] + ring[:at]), True)
                self.assertIs(self.soon(ring_can, ring_of(kind, good), ring[at::-1] + ring[:at:-1]), True)
                if wrong is not None:
                    self.assertIs(self.soon(ring_can, ring_of(kind, wrong), ring[at:] + ring[:at]), False)

    def test_all_rings_if_all_bare_rings(self):
        chance = random.Random(4)
        told = 0
        for kind in [kind for kind in small_kinds() if glues(kind)] + [sector_kind(3), sector_kind(4), order_kind()]:
            for share in (0.5, 0.7):
                network = some_network(chance, kind, 5, share)
                if all(ring_can(network, ring) for ring in bare_rings(network)):
                    rings = list(slow_rings(network))
                    told += len(rings)
                    for ring in rings:
                        self.assertIs(slow_ring_can(network, ring), True)
        self.assertGreater(told, 20)

    def test_a_kind_without_triples(self):
        network = ring_of(Kind((0,), []), [0, 0, 0, 0])
        self.assertIs(ring_can(network, (0, 1, 2, 3)), False)
        self.assertIs(is_bare(network, (0, 1, 2, 3)), True)

    def test_nothing_is_refused(self):
        network = ring_of(order_kind(), [0] * 4)
        for value in ODD_VALUES + list(product(range(5), repeat=3)):
            try:
                is_ring(network, value)
            except RingsError:
                self.fail(value)


if __name__ == "__main__":
    unittest.main()
