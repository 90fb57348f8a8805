"""[22], [23]: verdicts, and why rings decide."""

import random
import unittest
from itertools import combinations

from ringsdecide.built import distance_kind, free_kind, level_kind, order_kind, sector_kind, sum_kind
from ringsdecide.deciding import is_verdict, verdict
from ringsdecide.errors import NotDeciding
from ringsdecide.kinds import Kind
from ringsdecide.networks import Network, is_completion, with_told
from ringsdecide.rings import bare_rings, is_bare, is_ring, ring_can
from tests.helpers import (
    ODD_VALUES, Case, EqualToAll, all_but_threes, deciding_kinds, slow_completions, slow_ends, slow_first_completion,
    slow_is_bare, slow_ring_can, slow_rings, slow_ways, some_network, way_word, wide_networks,
)


class Verdicts(Case):
    def check(self, network):
        told = verdict(network=network)
        self.assertIs(type(told), tuple)
        self.all_tuples(told)
        self.assertIs(is_verdict(network=network, value=told), True)
        word, shown = told
        if word == "full":
            self.assertIs(is_completion(network, shown), True)
        else:
            self.assertEqual(word, "ring")
            self.assertIs(is_ring(network, shown) and is_bare(network, shown), True)
            self.assertIs(ring_can(network, shown), False)
        return told

    def test_verdict(self):
        chance = random.Random(22)
        words = {"full": 0, "ring": 0}
        longer = 0
        strict = [order_kind(), sum_kind(2), sum_kind(3), level_kind(2), level_kind(3)]
        for kind in deciding_kinds() + strict * 5:
            for places in (1, 2, 3, 4, 5, 6, 7):
                for share in (0.25, 0.35, 0.5, 0.7, 1):
                    network = some_network(chance, kind, places, share)
                    word, shown = self.check(network)
                    words[word] += 1
                    self.assertIs(word == "full", slow_first_completion(network) is not None)
                    if word == "ring":
                        longer += len(shown) > 3
                        self.assertIs(slow_ring_can(network, shown), False)
        self.assertTrue(words["full"] > 50 and words["ring"] > 50 and longer > 5, (words, longer))

    def test_rings_decide(self):
        chance = random.Random(23)
        for kind in deciding_kinds():
            for places, share in ((4, 0.7), (5, 0.5), (5, 0.6), (6, 0.4)):
                network = some_network(chance, kind, places, share)
                rings = [ring for ring in slow_rings(network) if slow_is_bare(network, ring)]
                fine = all(slow_ring_can(network, ring) for ring in rings)
                self.assertIs(slow_first_completion(network) is not None, fine)
                self.assertEqual(verdict(network)[0], "full" if fine else "ring")

    def test_why_it_is_so(self):
        chance = random.Random(231)
        tried = 0
        for kind in deciding_kinds():
            for share in (0.4, 0.6, 0.8):
                network = some_network(chance, kind, 5, share)
                if not all(slow_ring_can(network, ring) for ring in bare_rings(network)):
                    continue
                untold = [pair for pair in combinations(range(5), 2) if network.between(*pair) is None]
                for u, v in untold[:2]:
                    lots = [slow_ends(kind, way_word(network, way)) for way in slow_ways(network, u, v)]
                    for one, other in combinations(lots, 2):
                        self.assertTrue(one & other)
                    common = set(range(kind.relations)).intersection(*lots)
                    self.assertTrue(common)
                    for x in common:
                        further = with_told(network, u, v, x)
                        for ring in slow_rings(further):
                            self.assertIs(slow_ring_can(further, ring), True)
                    tried += 1
        self.assertGreater(tried, 40)

    def test_few_places(self):
        for kind in [order_kind(), free_kind(1), sum_kind(4)]:
            self.assertEqual(verdict(Network(kind, 1, [])), ("full", ((None,),)))
            self.assertEqual(self.check(Network(kind, 2, []))[0], "full")
            last = kind.relations - 1
            self.assertEqual(verdict(Network(kind, 2, [(1, 0, last)])),
                             ("full", ((None, kind.turned[last]), (last, None))))
            self.assertEqual(self.check(Network(kind, 5, []))[0], "full")
        self.assertEqual(set(verdict(Network(order_kind(), 3, [(0, 1, 0), (1, 2, 0), (2, 0, 0)]))[1]), {0, 1, 2})

    def test_long_rings(self):
        ring = tuple(range(40))
        for kind, x, last in [(order_kind(), 0, 0), (sum_kind(5), 1, 2), (level_kind(5), 0, 4)]:
            told = [(at, at + 1, x) for at in range(39)]
            word, shown = self.soon(self.check, Network(kind, 40, told + [(39, 0, last)]))
            self.assertEqual((word, len(shown), set(shown)), ("ring", 40, set(ring)))
            self.assertEqual(self.soon(self.check, Network(kind, 40, told))[0], "full")
        # Two long ways that do not agree, and a shortcut told between them that one half agrees with.
        told = [(at, (at + 1) % 40, 1) for at in range(40)]
        told[3] = (3, 4, 2)
        word, shown = self.check(Network(sum_kind(5), 40, told + [(0, 20, 1)]))
        self.assertEqual((word, set(shown)), ("ring", {0} | set(range(20, 40))))

    def test_forty_places(self):
        words = {"full": 0, "ring": 0}
        for network, known in wide_networks(40, 5):
            word, _ = self.soon(self.check, network)
            words[word] += 1
            self.assertTrue(known is None or word == "full")
        self.assertTrue(words["full"] > 15 and words["ring"] > 5, words)

    def test_webs_of_forty_places(self):
        # Grids, whose bare rings may be long, with one relation that does not agree with the others.
        kind = sum_kind(5)
        told = [(8 * row + at, 8 * row + at + 1, 1) for row in range(5) for at in range(7)]
        told += [(8 * row + at, 8 * row + at + 8, 3) for row in range(4) for at in range(8)]
        self.assertEqual(self.soon(self.check, Network(kind, 40, told))[0], "full")
        told[11] = told[11][:2] + (4,)
        self.assertEqual(self.soon(self.check, Network(kind, 40, told))[0], "ring")
        kind = distance_kind((1, 2, 3, 4, 5))
        told = [(u, u + 1, 0) for u in range(39)] + [(0, 5, 4), (10, 15, 4), (20, 23, 4), (30, 34, 3)]
        word, shown = self.soon(self.check, Network(kind, 40, told))
        self.assertEqual((word, set(shown)), ("ring", {20, 21, 22, 23}))

    def test_is_verdict(self):
        kind = order_kind()
        network = Network(kind, 4, [(0, 1, 0), (1, 2, 0), (2, 3, 0), (3, 0, 0)])
        for ring in [(0, 1, 2, 3), (2, 3, 0, 1), (3, 2, 1, 0)]:
            self.assertIs(is_verdict(network, ("ring", ring)), True)
        full = ((None, 0, 0, 0), (1, None, 0, 0), (1, 1, None, 0), (1, 1, 1, None))
        for value in [("full", full), ("ring", (0, 1, 2)), ("ring", (0, 2, 1, 3)), ("full", (0, 1, 2, 3)),
                      ("ring", [0, 1, 2, 3]), ["ring", (0, 1, 2, 3)], ("ring", (0, 1, 2, 3), 0), ("ring",),
                      ("rings", (0, 1, 2, 3)), (EqualToAll(), (0, 1, 2, 3)), (b"ring", (0, 1, 2, 3)),
                      ("ring", EqualToAll()), ("ring", (False, True, 2, 3)), (("ring", (0, 1, 2, 3)),),
                      ("", (0, 1, 2, 3)), (None, (0, 1, 2, 3))]:
            self.assertIs(is_verdict(network, value), False)
        fine = Network(kind, 4, [(0, 1, 0), (1, 2, 0), (2, 3, 0), (0, 3, 0)])
        self.assertIs(is_verdict(fine, ("full", full)), True)
        for value in [("ring", (0, 1, 2, 3)), ("full", full[:3]), ("full", list(full)), ("full", full[::-1]),
                      ("full", tuple(list(row) for row in full)), ("ring", full), ("Full", full), ["full", full],
                      (EqualToAll(), full), ("full", EqualToAll()), ("full",), ("full", full, None)]:
            self.assertIs(is_verdict(fine, value), False)
        for value in ODD_VALUES:
            for other in (network, fine):
                self.assertIs(is_verdict(other, value), False)
                self.assertIs(is_verdict(other, ("full", value)), False)
                self.assertIs(is_verdict(other, ("ring", value)), False)
                self.assertIs(is_verdict(other, (value, value)), False)

    def test_a_ring_that_is_not_bare(self):
        kind = order_kind()
        told = [(0, 1, 0), (1, 2, 0), (2, 3, 0), (3, 0, 0), (0, 2, 0)]
        network = Network(kind, 4, told)
        self.assertIs(ring_can(network, (0, 1, 2, 3)), False)
        self.assertIs(is_verdict(network, ("ring", (0, 1, 2, 3))), False)
        self.assertIs(is_verdict(network, ("ring", (0, 2, 3))), True)
        self.assertIs(is_verdict(network, ("ring", (0, 1, 2))), False)
        self.assertEqual(set(self.check(network)[1]), {0, 2, 3})

    def test_each_completion_and_ring_is_right(self):
        chance = random.Random(6)
        for kind in [order_kind(), distance_kind((1, 2, 3)), level_kind(2)]:
            for _ in range(6):
                network = some_network(chance, kind, 4, 0.8)
                found = slow_completions(network)
                for rows in found:
                    self.assertIs(is_verdict(network, ("full", rows)), True)
                for ring in slow_rings(network):
                    wrong = slow_is_bare(network, ring) and not slow_ring_can(network, ring)
                    self.assertIs(is_verdict(network, ("ring", ring)), wrong)
                    self.assertTrue(not wrong or not found)

    def test_not_deciding(self):
        for kind, at in [(sector_kind(3), 1), (distance_kind((1, 2, 4)), 0), (all_but_threes(3), 0),
                         (Kind((0,), []), 0), (sector_kind(5), 1)]:
            for network in [Network(kind, 1, []), Network(kind, 3, [(0, 1, 0)])]:
                self.refused(NotDeciding, at, verdict, network)
                for value in [None, ("full", ((None,),)), ("ring", (0, 1, 2)), EqualToAll()]:
                    self.refused(NotDeciding, at, is_verdict, network, value)


if __name__ == "__main__":
    unittest.main()
