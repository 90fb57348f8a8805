"""[33], [34]: what follows from what is told, cores, and networks with the same completions."""

import random
import unittest
from itertools import combinations

from ringsdecide.built import distance_kind, free_kind, level_kind, order_kind, sum_kind
from ringsdecide.errors import NotDeciding, Refused
from ringsdecide.needless import core, needless, same_completions
from ringsdecide.networks import Network
from ringsdecide.possible import possible_rows
from tests.helpers import (
    APART_OR_UNMEETING, Case, clock_rows, deciding_kinds, level_rows, part_of, row_rows, slow_completions,
    some_network, tree_rows, tried_places, wide_networks,
)

LOST = [(0, 1, 0), (1, 2, 0), (2, 0, 0)]


def slow_follows(network, others, triple):
    """Whether all completions of the network that tells only the others have the told relation."""
    u, v, x = triple
    return all(rows[u][v] == x for rows in slow_completions(Network(network.kind, network.places, others)))


def some_networks(seed):
    """Networks of deciding kinds, about half of them parts of a full network."""
    chance = random.Random(seed)
    for kind in deciding_kinds() + [order_kind(), sum_kind(2), level_kind(3)] * 3:
        for places, share in ((1, 1), (2, 0.5), (3, 0.9), (4, 0.8), (tried_places(kind), 0.5)):
            network = some_network(chance, kind, places, share / 2)
            found = slow_completions(network)
            yield part_of(chance, kind, chance.choice(found), share) if found else network
            if chance.random() < 0.3:
                yield some_network(chance, kind, places, share)


class Needless(Case):
    def test_needless(self):
        many = lost = 0
        for network in some_networks(33):
            if not slow_completions(network):
                lost += 1
                self.refused(Refused, 0, needless, network)
                continue
            told = needless(network=network)
            self.all_tuples(told)
            slow = tuple(
                triple for triple in network.told
                if slow_follows(network, [other for other in network.told if other != triple], triple)
            )
            self.assertEqual(told, slow)
            many += len(told)
        self.assertTrue(many > 50 and lost > 5, (many, lost))

    def test_core(self):
        less = 0
        for network in some_networks(330):
            every = slow_completions(network)
            if not every:
                self.refused(Refused, 0, core, network)
                continue
            told = core(network=network)
            self.all_tuples(told)
            self.assertIs(type(told), tuple)
            self.assertEqual(told, tuple(sorted(set(told) & set(network.told))))
            for triple in network.told:
                others = [other for other in told if other != triple]
                self.assertIs(slow_follows(network, others, triple), triple not in told)
            small = Network(network.kind, network.places, told)
            self.assertEqual(slow_completions(small), every)
            self.assertIs(same_completions(small, network), True)
            less += len(network.told) - len(told)
        self.assertGreater(less, 50)

    def test_known_ones(self):
        kind = order_kind()
        network = Network(kind, 4, [(u, v, 0) for u, v in combinations(range(4), 2)])
        self.assertEqual(needless(network), ((0, 2, 0), (0, 3, 0), (1, 3, 0)))
        self.assertEqual(core(network), ((0, 1, 0), (1, 2, 0), (2, 3, 0)))
        # Each of three follows from the other two, but no two of them from the third.
        network = Network(sum_kind(3), 3, [(0, 1, 1), (1, 2, 1), (0, 2, 2)])
        self.assertEqual(needless(network), network.told)
        self.assertEqual(len(core(network)), 2)
        network = Network(free_kind(1), 3, [(0, 1, 0), (1, 2, 0)])
        self.assertEqual(needless(network), network.told)
        self.assertEqual(core(network), ())

    def test_few_told(self):
        for places in (1, 2, 12):
            network = Network(order_kind(), places, [])
            self.assertEqual((needless(network), core(network)), ((), ()))
        network = Network(order_kind(), 2, [(0, 1, 1)])
        self.assertEqual((needless(network), core(network)), ((), network.told))

    def test_no_completion(self):
        for places in (3, 12):
            self.refused(Refused, 0, needless, Network(order_kind(), places, LOST))
            self.refused(Refused, 0, core, Network(order_kind(), places, LOST))

    def test_twelve_places(self):
        chance = random.Random(12)
        for kind, rows in [(order_kind(), row_rows(chance, 12)), (sum_kind(5), clock_rows(chance, 12, 5)),
                           (level_kind(5), level_rows(12, 5)),
                           (distance_kind((1, 2, 3, 4, 5)), tree_rows(chance, 12, 5)),
                           (free_kind(5), part_of(chance, free_kind(5), level_rows(12, 5), 1).told)]:
            for share in (1, 0.6):
                if kind == free_kind(5):
                    network = Network(kind, 12, rows)
                    self.assertEqual(self.soon(needless, network), ())
                    self.assertEqual(self.soon(core, network), network.told)
                    continue
                network = part_of(chance, kind, rows, share)
                spare = self.soon(needless, network)
                kept = self.soon(core, network)
                small = Network(kind, 12, kept)
                self.assertEqual(possible_rows(small), possible_rows(network))
                self.assertEqual(needless(small), ())
                self.assertLessEqual(set(network.told) - set(kept), set(spare))
                if kind == sum_kind(5) and share == 1:
                    self.assertEqual((len(spare), len(kept)), (66, 11))


class Same(Case):
    def test_same_completions(self):
        chance = random.Random(34)
        equal = unequal = none = 0
        for network in some_networks(34):
            kind, places = network.kind, network.places
            every = slow_completions(network)
            others = [some_network(chance, kind, places, 0.7), some_network(chance, kind, places, 1), network,
                      Network(kind, places, [])]
            if every:
                others.append(part_of(chance, kind, chance.choice(every), 0.9))
                others.append(Network(kind, places, network.told[1:]))
                others.append(Network(kind, places, core(network)))
            for other in others:
                found = slow_completions(other)
                told = same_completions(one=network, other=other)
                self.assertIs(told, found == every)
                self.assertIs(same_completions(other, network), told)
                equal += told and network != other
                unequal += not told
                none += not found and not every and network != other
                if found and every:
                    self.assertIs(told, possible_rows(network) == possible_rows(other))
                    self.assertIs(told, all(slow_follows(network, other.told, triple) for triple in network.told)
                                  and all(slow_follows(network, network.told, triple) for triple in other.told))
        self.assertTrue(equal > 30 and unequal > 100 and none > 5, (equal, unequal, none))

    def test_without_completions(self):
        lost = Network(order_kind(), 4, LOST)
        other = Network(order_kind(), 4, [(u + 1, v + 1, x) for u, v, x in LOST])
        self.assertIs(same_completions(lost, other), True)
        self.assertIs(same_completions(lost, Network(order_kind(), 4, [])), False)
        self.assertIs(same_completions(Network(order_kind(), 4, []), lost), False)

    def test_few_places(self):
        kind = order_kind()
        self.assertIs(same_completions(Network(kind, 1, []), Network(kind, 1, [])), True)
        self.assertIs(same_completions(Network(kind, 2, []), Network(kind, 2, [(0, 1, 0)])), False)
        self.assertIs(same_completions(Network(kind, 2, [(1, 0, 1)]), Network(kind, 2, [(0, 1, 0)])), True)
        self.assertIs(same_completions(Network(kind, 2, [(0, 1, 1)]), Network(kind, 2, [(0, 1, 0)])), False)

    def test_forty_places(self):
        for network, known in wide_networks(40, 34):
            self.assertIs(self.soon(same_completions, network, Network(network.kind, 40, network.told[::-1])), True)
            less = Network(network.kind, 40, network.told[:-1])
            told = self.soon(same_completions, network, less)
            self.assertIs(told, possible_rows(network) == possible_rows(less))


class Refusals(Case):
    def test_kinds_or_places_not_equal(self):
        network = Network(order_kind(), 3, [])
        for other in [Network(order_kind(), 4, []), Network(free_kind(2), 3, []), Network(sum_kind(2), 3, []),
                      Network(order_kind(), 2, [])]:
            self.refused(Refused, 0, same_completions, network, other)
            self.refused(Refused, 0, same_completions, other, network)

    def test_not_deciding(self):
        for kind, at in APART_OR_UNMEETING:
            for network in [Network(kind, 1, []), Network(kind, 3, [(0, 1, 0)]),
                            Network(kind, 4, [(u, v, 0) for u, v in combinations(range(4), 2)])]:
                self.refused(NotDeciding, at, needless, network)
                self.refused(NotDeciding, at, core, network)
                fine = Network(order_kind(), 2, [])
                self.refused(NotDeciding, at, same_completions, network, fine)
                self.refused(NotDeciding, at, same_completions, fine, network)
                self.refused(NotDeciding, at, same_completions, network, network)
                for other, later in APART_OR_UNMEETING:
                    self.refused(NotDeciding, at, same_completions, network, Network(other, 2, []))


if __name__ == "__main__":
    unittest.main()
