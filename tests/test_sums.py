"""[45]: heights, rings that do not sum to 0, how many completions there are."""

import random
import unittest
from itertools import permutations, product

from ringsdecide.built import distance_kind, free_kind, level_kind, order_kind, sector_kind, sum_kind
from ringsdecide.errors import InvalidQuestion, Refused
from ringsdecide.fullnets import full_networks
from ringsdecide.kinds import Kind
from ringsdecide.networks import Network, is_completion
from ringsdecide.rings import is_bare, is_ring
from ringsdecide.sums import count_completions, heights, is_uneven_ring, ring_sum, rows_of_heights, uneven_ring
from tests.helpers import (
    ODD_VALUES, Case, EqualToAll, clock_rows, part_of, slow_completions, slow_is_bare, slow_rings, some_network,
)


def some_networks(seed):
    """Networks of sums, small enough to be tried out, half of them parts of a full one."""
    chance = random.Random(seed)
    for many in range(1, 7):
        kind = sum_kind(many)
        most = 5 if many < 4 else 4
        for places, share in ((1, 1), (2, 0.5), (3, 0.4), (3, 0.9), (4, 0.3), (4, 0.6), (most, 0.6), (most, 0.2)):
            for _ in range(3):
                yield some_network(chance, kind, places, share)
                yield part_of(chance, kind, clock_rows(chance, places, many), share, chance.choice((0, 0, 1)))


def slow_sum(network, ring):
    """The sum along a ring, modulo the number of relations."""
    return sum(network.between(ring[at - 1], ring[at]) for at in range(len(ring))) % network.kind.relations


def slow_parts(network):
    """The parts, each as the set of its places."""
    parts = [{place} for place in range(network.places)]
    for u, v, _ in network.told:
        one = next(part for part in parts if u in part)
        other = next(part for part in parts if v in part)
        if one is not other:
            parts.remove(other)
            one |= other
    return parts


class Sums(Case):
    def test_ring_sum(self):
        many = 0
        for network in some_networks(45):
            for ring in slow_rings(network):
                for at in range(len(ring)):
                    turned = ring[at:] + ring[:at]
                    self.assertEqual(ring_sum(network=network, ring=turned), slow_sum(network, ring))
                    back = ring_sum(network, turned[::-1])
                    self.assertEqual((back + slow_sum(network, ring)) % network.kind.relations, 0)
                many += 1
        self.assertGreater(many, 100)

    def test_rings_refused(self):
        network = Network(sum_kind(3), 4, [(0, 1, 1), (1, 2, 1), (2, 0, 2), (2, 3, 0)])
        self.assertEqual(ring_sum(network, (0, 1, 2)), 1)
        self.assertEqual(ring_sum(network, (2, 1, 0)), 2)
        for value in ODD_VALUES + [[0, 1, 2], (0, 1), (0, 1, 2, 0), (0, 1, 2, 3), (0, 1, 3), (False, True, 2),
                                   (0, 1, 2.0), (0, 1, -1), (0, 1, 4), ((0, 1, 2),), (0, [1], 2), EqualToAll(),
                                   (0, 1, EqualToAll())]:
            self.refused(InvalidQuestion, 0, ring_sum, network, value)
            self.assertIs(is_uneven_ring(network, value), False)

    def test_heights(self):
        with_some = without = 0
        for network in some_networks(451):
            told = heights(network=network)
            even = all(slow_sum(network, ring) == 0 for ring in slow_rings(network))
            self.assertIs(told is not None, even)
            self.assertIs(bool(slow_completions(network)), even)
            if not even:
                without += 1
                continue
            with_some += 1
            many = network.kind.relations
            self.assertIs(type(told), tuple)
            self.assertEqual(len(told), network.places)
            for height in told:
                self.assertIs(type(height), int)
                self.assertIn(height, range(many))
            for u, v, x in network.told:
                self.assertEqual(told[v], (told[u] + x) % many)
            for part in slow_parts(network):
                self.assertEqual(told[min(part)], 0)
            self.assertIs(is_completion(network, rows_of_heights(many, told)), True)
        self.assertTrue(with_some > 100 and without > 20, (with_some, without))

    def test_uneven_ring(self):
        lengths = set()
        for network in some_networks(452):
            uneven = {ring for ring in slow_rings(network) if slow_sum(network, ring) != 0}
            bare = {ring for ring in uneven if slow_is_bare(network, ring)}
            self.assertIs(bool(bare), bool(uneven))
            told = uneven_ring(network=network)
            if not uneven:
                self.assertIs(told, None)
                continue
            self.assertIs(type(told), tuple)
            self.assertIs(slow_is_bare(network, told) and is_ring(network, told), True)
            self.assertNotEqual(slow_sum(network, told), 0)
            lengths.add(len(told))
            for size in range(network.places + 1):
                for value in permutations(range(network.places), size):
                    wanted = is_ring(network, value) and is_bare(network, value) and slow_sum(network, value) != 0
                    self.assertIs(is_uneven_ring(network=network, value=value), wanted)
        self.assertLessEqual({3, 4}, lengths)

    def test_rows_of_heights(self):
        for many in range(1, 7):
            for places in range(4):
                found = set()
                for row in product(range(many), repeat=places):
                    rows = rows_of_heights(many=many, row=list(row))
                    self.all_tuples(rows)
                    found.add(rows)
                self.assertEqual(tuple(sorted(found)), full_networks(sum_kind(many), places))
        self.assertEqual(rows_of_heights(6, [-1, 10 ** 40, -10 ** 30]),
                         rows_of_heights(6, [-1 % 6, 10 ** 40 % 6, -10 ** 30 % 6]))
        self.assertEqual(rows_of_heights(5, (-3, 4)), ((None, 2), (3, None)))
        self.assertEqual(rows_of_heights(1, (5, -7)), ((None, 0), (0, None)))
        self.assertEqual(rows_of_heights(4, ()), ())
        self.assertEqual(rows_of_heights(4, [9]), ((None,),))

    def test_count_completions(self):
        counts = set()
        for network in some_networks(453):
            told = count_completions(network=network)
            self.assertEqual(told, len(slow_completions(network)))
            counts.add(told)
            if told:
                self.assertEqual(told, network.kind.relations ** (len(slow_parts(network)) - 1))
        self.assertLessEqual({0, 1, 2, 4, 5, 36}, counts)

    def test_clock_of_one_hour(self):
        for kind in (sum_kind(1), free_kind(1), level_kind(1), distance_kind((8,)), sector_kind(1)):
            network = Network(kind, 5, [(0, 1, 0), (1, 2, 0), (0, 2, 0), (3, 4, 0)])
            self.assertEqual(heights(network), (0,) * 5)
            self.assertIs(uneven_ring(network), None)
            self.assertEqual(count_completions(network), 1)
            self.assertEqual(ring_sum(network, (0, 1, 2)), 0)
            self.assertIs(is_uneven_ring(network, (0, 1, 2)), False)

    def test_a_kind_that_is_equal(self):
        # What counts is that the kind equals one of sums.
        kind = Kind([0, 1], [(x, y, (x + y) % 2) for x in range(2) for y in range(2)])
        network = Network(kind, 3, [(0, 1, 1), (1, 2, 1), (0, 2, 1)])
        self.assertEqual(set(uneven_ring(network)), {0, 1, 2})
        self.assertEqual(count_completions(network), 0)

    def test_parts_and_lone_places(self):
        network = Network(sum_kind(5), 7, [(6, 2, 3), (2, 4, 4), (3, 5, 2)])
        self.assertEqual(heights(network), (0, 0, 0, 0, 4, 2, 2))
        self.assertEqual(count_completions(network), 125)
        self.assertEqual(count_completions(Network(sum_kind(6), 40, [])), 6 ** 39)
        self.assertEqual(heights(Network(sum_kind(6), 1, [])), (0,))
        self.assertEqual(count_completions(Network(sum_kind(6), 1, [])), 1)

    def test_forty_places(self):
        chance = random.Random(454)
        uneven = 0
        for many in (2, 5, 6):
            kind = sum_kind(many)
            for share, wrong in ((0, 0), (0.02, 0), (0.05, 1), (0.06, 3), (0.3, 0), (0.3, 1), (1, 0), (1, 1)):
                network = part_of(chance, kind, clock_rows(chance, 40, many), share, wrong)
                told = self.soon(heights, network)
                ring = self.soon(uneven_ring, network)
                self.assertIs(told is None, ring is not None)
                if ring is not None:
                    uneven += 1
                    self.assertIs(is_uneven_ring(network, ring), True)
                    self.assertNotEqual(ring_sum(network, ring), 0)
                    self.assertEqual(count_completions(network), 0)
                else:
                    self.assertIs(is_completion(network, rows_of_heights(many, told)), True)
                    self.assertEqual(count_completions(network), many ** (len(slow_parts(network)) - 1))
            long_ring = Network(kind, 40, [(at, (at + 1) % 40, int(at == 7)) for at in range(40)])
            self.assertEqual(set(self.soon(uneven_ring, long_ring)), set(range(40)))
        self.assertGreater(uneven, 5)

    def test_another_kind(self):
        for kind in [order_kind(), level_kind(2), sector_kind(2), sector_kind(3), distance_kind((1, 2)), free_kind(2),
                     Kind((0, 1), []), Kind((0, 2, 1), [])]:
            network = Network(kind, 3, [(0, 1, 0), (1, 2, 0), (0, 2, 0)])
            self.refused(Refused, 0, heights, network)
            self.refused(Refused, 0, uneven_ring, network)
            self.refused(Refused, 0, count_completions, network)
            for value in ODD_VALUES + [(0, 1, 2)]:
                self.refused(Refused, 0, ring_sum, network, value)
                self.refused(Refused, 0, is_uneven_ring, network, value)


if __name__ == "__main__":
    unittest.main()
