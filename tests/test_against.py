"""[24]: what is against a kind that does not decide."""

import random
import unittest
from itertools import combinations

from ringsdecide.against import against, is_against
from ringsdecide.built import barred_kind, distance_kind, free_kind, level_kind, order_kind, sector_kind, sum_kind
from ringsdecide.errors import Refused
from ringsdecide.gluing import glues
from ringsdecide.kinds import Kind
from ringsdecide.meeting import decides, meets
from ringsdecide.networks import Network, tried_completion, with_told
from ringsdecide.rings import bare_rings
from tests.helpers import (
    ODD_VALUES, Case, EqualToAll, all_but_threes, all_kinds, deciding_kinds, slow_first_completion, slow_is_bare,
    slow_ring_can, slow_rings, small_kinds, some_kinds, some_network, stands,
)


def slow_is_against(kind, network):
    """Whether all bare rings can be completed, though the network cannot."""
    return slow_first_completion(network) is None and all(
        slow_ring_can(network, ring) for ring in slow_rings(network) if slow_is_bare(network, ring)
    )


def beside(network, place):
    return [v for v in range(network.places) if v != place and network.between(place, v) is not None]


def way_ends(network):
    """The two places with more or fewer than two told neighbours."""
    u, v = [place for place in range(network.places) if len(beside(network, place)) != 2]
    return u, v


# Kinds that glue and do not meet.
UNMEETING = [
    sector_kind(3), sector_kind(4), sector_kind(5),
    barred_kind((0, 2, 1), [(0, 0, 0), (0, 1, 1), (0, 2, 2), (1, 1, 2)]),
    barred_kind((0, 1, 3, 2), [(0, 0, 0), (0, 0, 1), (0, 1, 1), (0, 2, 2), (0, 3, 3), (1, 1, 1), (1, 2, 2), (1, 3, 3),
                               (2, 2, 3)]),
    barred_kind((2, 3, 0, 1), [(0, 0, 0), (0, 0, 1), (0, 1, 1), (0, 1, 3), (0, 3, 3), (1, 1, 3)]),
    barred_kind((2, 1, 0, 3), [(0, 0, 2), (0, 1, 0), (0, 2, 1), (0, 2, 3), (0, 3, 0), (1, 1, 1), (1, 1, 3), (1, 3, 3),
                               (3, 3, 3)]),
]


class Against(Case):
    def check_apart(self, kind, network):
        """One pair is untold, all triangles are allowed."""
        places = network.places
        self.assertLessEqual(places, kind.relations + 2)
        untold = [pair for pair in combinations(range(places), 2) if network.between(*pair) is None]
        self.assertEqual(len(untold), 1)
        for left_out in untold[0]:
            kept = [place for place in range(places) if place != left_out]
            rows = tuple(tuple(None if u == v else network.between(u, v) for v in kept) for u in kept)
            self.assertIs(stands(kind, rows), True)
        self.assertEqual({len(ring) for ring in bare_rings(network)} - {3}, set())

    def check_ways(self, kind, network):
        """Three to m ways between two places, all others having two neighbours."""
        u, v = way_ends(network)
        ways = 0
        for first in beside(network, u):
            before, place = u, first
            while place != v:
                self.assertEqual(len(beside(network, place)), 2)
                before, place = place, [w for w in beside(network, place) if w != before][0]
                self.assertNotEqual(place, u)
            ways += 1
        self.assertTrue(3 <= ways <= kind.relations, ways)
        self.assertEqual(len(network.told), network.places - 2 + ways)

    def check(self, kind):
        told = against(kind=kind)
        self.assertIs(type(told), Network)
        self.assertEqual(told.kind, kind)
        self.assertLessEqual(told.places, 8)
        self.assertIs(is_against(kind=kind, value=told), True)
        self.assertIsNone(tried_completion(told))
        if glues(kind):
            self.check_ways(kind, told)
        else:
            self.check_apart(kind, told)
        return told

    def test_against(self):
        seen = {"apart": 0, "ways": 0, "decides": 0}
        for kind in small_kinds() + list(some_kinds(4, 40, 24)) + list(some_kinds(5, 20, 25)) + UNMEETING:
            if decides(kind):
                self.assertIsNone(against(kind))
                seen["decides"] += 1
                continue
            self.check(kind)
            seen["ways" if glues(kind) else "apart"] += 1
        self.assertTrue(min(seen.values()) >= len(UNMEETING), seen)

    def test_against_tried_out(self):
        for kind in list(all_kinds(2))[::3] + [sector_kind(3), sector_kind(4), all_but_threes(2), UNMEETING[3],
                                               distance_kind((1, 2, 4)), distance_kind((1, 3, 4, 9))]:
            if not decides(kind):
                network = against(kind)
                self.assertLessEqual(network.places, 6)
                self.assertIs(slow_is_against(kind, network), True)

    def test_kinds_that_glue_and_do_not_meet(self):
        for kind in UNMEETING:
            self.assertIs(glues(kind), True)
            self.assertIs(meets(kind), False)
            self.check(kind)

    def test_deciding_kinds(self):
        chance = random.Random(24)
        for kind in deciding_kinds():
            self.assertIsNone(against(kind))
            for share in (0.4, 0.7, 1):
                self.assertIs(is_against(kind, some_network(chance, kind, 5, share)), False)

    def test_a_kind_that_fails_over_as_many_places_as_it_has_relations(self):
        for many in (2, 3, 4, 5):
            network = self.check(all_but_threes(many))
            self.assertEqual(network.places, many + 2)

    def test_one_relation(self):
        kind = Kind((0,), [])
        network = against(kind)
        self.assertEqual(network.places, 3)
        self.assertEqual(len(network.told), 2)
        self.assertIs(is_against(kind, Network(kind, 3, [])), True)
        self.assertIs(is_against(kind, Network(kind, 2, [])), False)
        self.assertIs(is_against(kind, Network(kind, 3, [(0, 1, 0), (1, 2, 0), (0, 2, 0)])), False)

    def test_refused(self):
        # For all kinds of at most five relations eight places are enough; for this one nine are needed.
        self.refused(Refused, 0, against, sector_kind(7))
        six = self.soon(against, sector_kind(6))
        self.assertEqual(six.places, 8)
        self.check_ways(sector_kind(6), six)
        self.assertIs(is_against(sector_kind(6), six), True)

    def test_is_against(self):
        chance = random.Random(42)
        wrong = 0
        for kind in UNMEETING[:2] + [all_but_threes(2), distance_kind((1, 2, 4)), Kind((0, 1), [(0, 0, 0)]),
                                     Kind((1, 0), []), order_kind(), sum_kind(2)]:
            for _ in range(25):
                network = some_network(chance, kind, chance.choice((3, 4, 5)), chance.choice((0.3, 0.6, 0.9)))
                told = is_against(kind, network)
                self.assertIs(told, slow_is_against(kind, network))
                wrong += told
        self.assertGreater(wrong, 10)

    def test_whatever_form(self):
        kind = sector_kind(3)
        network = against(kind)
        for places in range(network.places, 10):
            # Further places of which nothing is told change nothing, up to eight places in all.
            self.assertIs(is_against(kind, Network(kind, places, network.told)), places <= 8)
        turned = [(network.places - 1 - u, network.places - 1 - v, x) for u, v, x in network.told]
        self.assertIs(is_against(kind, Network(kind, network.places, turned)), True)
        for u, v, x in network.told:
            left = [entry for entry in network.told if entry != (u, v, x)]
            self.assertIs(is_against(kind, Network(kind, network.places, left)), False)

    def test_a_bare_ring_that_goes_wrong(self):
        kind = sector_kind(3)
        network = against(kind)
        u = network.places
        more = Network(kind, u + 3, network.told + ((u, u + 1, 0), (u + 1, u + 2, 0), (u + 2, u, 0)))
        self.assertIs(slow_ring_can(more, (u, u + 1, u + 2)), (0, 0, kind.turned[0]) in kind.triples)
        wrong = [(x, y, z) for x in range(3) for y in range(3) for z in range(3)
                 if (x, y, kind.turned[z]) not in kind.triples]
        x, y, z = wrong[0]
        more = Network(kind, u + 3, network.told + ((u, u + 1, x), (u + 1, u + 2, y), (u + 2, u, z)))
        self.assertIsNone(tried_completion(more))
        self.assertIs(is_against(kind, more), False)

    def test_is_against_of_any_value(self):
        for kind in [sector_kind(3), order_kind(), all_but_threes(2)]:
            for value in ODD_VALUES + [kind, EqualToAll(), Network(kind, 1, []), Network(kind, 8, []),
                                       (Network(kind, 8, []),)]:
                told = is_against(kind, value)
                self.assertIs(told, kind == all_but_threes(2) and type(value) is Network and value.places == 8)
        network = against(sector_kind(3))
        for kind in [order_kind(), free_kind(3), sector_kind(4), level_kind(3)]:
            self.assertIs(is_against(kind, network), False)
        self.assertIs(is_against(sector_kind(3), (network,)), False)
        # With a relation told of the two ends of the ways, one of the rings that come about goes wrong.
        for x in range(3):
            self.assertIs(is_against(sector_kind(3), with_told(network, *way_ends(network), x)), False)


if __name__ == "__main__":
    unittest.main()
