"""[32]: telling what is possible, and never being stuck."""

import random
import unittest
from itertools import combinations, permutations

from ringsdecide.built import distance_kind, free_kind, level_kind, order_kind, sum_kind
from ringsdecide.choices import chosen, filled
from ringsdecide.errors import NotDeciding, Refused
from ringsdecide.networks import Network, is_completion, rows_of
from ringsdecide.possible import possible, possible_rows
from tests.helpers import (
    APART_OR_UNMEETING, ODD_VALUES, Case, EqualToAll, deciding_kinds, slow_completions, slow_first_completion,
    some_network, tried_places, wide_networks,
)

LOST = [(0, 1, 0), (1, 2, 0), (2, 0, 0)]


def some_networks(seed):
    chance = random.Random(seed)
    for kind in deciding_kinds() + [order_kind(), sum_kind(2), level_kind(3)] * 3:
        for places, share in ((1, 1), (2, 0.5), (3, 0.7), (4, 0.5), (tried_places(kind), 0.4)):
            yield some_network(chance, kind, places, share)


class Chosen(Case):
    def test_one_after_another(self):
        chance = random.Random(32)
        refused = taken = 0
        for network in some_networks(32):
            places, kind = network.places, network.kind
            if places == 1:
                continue
            for _ in range(3):
                choices = [(*chance.sample(range(places), 2), chance.randrange(kind.relations)) for _ in range(4)]
                found, wrong = network, None
                for at, (u, v, x) in enumerate(choices):
                    fits = [rows for rows in slow_completions(found) if rows[u][v] == x]
                    if not fits:
                        wrong = at
                        break
                    if found.between(u, v) is None:
                        found = Network(kind, places, found.told + ((u, v, x),))
                if wrong is None:
                    taken += 1
                    told = chosen(network=network, choices=choices)
                    self.assertEqual(told, found)
                    self.assertEqual(chosen(network, tuple(choices)), found)
                else:
                    refused += 1
                    self.refused(Refused, wrong, chosen, network, choices)
        self.assertTrue(taken > 40 and refused > 40, (taken, refused))

    def test_a_pair_told_again(self):
        kind = order_kind()
        network = Network(kind, 3, [(0, 1, 0)])
        self.assertEqual(chosen(network, [(0, 1, 0)]), network)
        self.assertEqual(chosen(network, [(1, 0, 1), (1, 2, 0), (2, 1, 1)]),
                         Network(kind, 3, [(0, 1, 0), (1, 2, 0)]))
        self.refused(Refused, 0, chosen, network, [(0, 1, 1)])
        self.refused(Refused, 2, chosen, network, [(1, 2, 0), (1, 2, 0), (2, 0, 0)])
        self.refused(Refused, 1, chosen, network, [(1, 2, 0), (2, 1, 0), (2, 0, 0)])

    def test_no_choices(self):
        network = Network(order_kind(), 3, [(1, 0, 0)])
        self.assertEqual(chosen(network, []), network)
        self.assertEqual(chosen(network, ()), network)
        lost = Network(order_kind(), 3, LOST)
        self.assertEqual(chosen(lost, []), lost)
        self.assertEqual(chosen(Network(order_kind(), 1, []), []), Network(order_kind(), 1, []))

    def test_without_a_completion(self):
        lost = Network(order_kind(), 4, LOST)
        self.refused(Refused, 0, chosen, lost, [(0, 1, 0)])
        self.refused(Refused, 0, chosen, lost, [(0, 3, 0), (0, 1, 0)])
        self.refused(Refused, 0, chosen, lost, None)

    def test_choices_of_any_value(self):
        network = Network(order_kind(), 3, [])
        for value in ODD_VALUES:
            if type(value) not in (list, tuple):
                self.refused(Refused, 0, chosen, network, value)
            self.refused(Refused, 2, chosen, network, [(0, 1, 0), (1, 2, 0), value, (2, 0, 0)])
        self.refused(Refused, 0, chosen, network, EqualToAll())
        for entry in [[1, 2, 0], (1, 2), (1, 2, 0, 0), (1, 1, 0), (1, 3, 0), (3, 1, 0), (1, 2, 2), (1, 2, -1),
                      (True, 2, 0), (1, 2, False), (1, False, 0), (1.0, 2, 0), (-1, 2, 0), (1, 2, None),
                      ((1, 2, 0),), (1, 2, EqualToAll()), (EqualToAll(), 2, 0), (1, 2, [0]), "120", (1, 2, "0")]:
            self.refused(Refused, 1, chosen, network, [(0, 1, 0), entry])
            self.refused(Refused, 0, chosen, network, (entry, (2, 0, 5)))
        # A choice that is not possible comes ahead of a later one that is no triple.
        self.refused(Refused, 2, chosen, network, [(0, 1, 0), (1, 2, 0), (0, 2, 1), None])

    def test_arguments_stay(self):
        choices = [(0, 1, 0), (2, 1, 1)]
        network = Network(order_kind(), 3, [])
        told = chosen(network, choices)
        self.assertEqual(choices, [(0, 1, 0), (2, 1, 1)])
        choices.append((0, 2, 0))
        self.assertEqual(told.told, ((0, 1, 0), (1, 2, 0)))
        self.assertEqual(network.told, ())

    def test_never_stuck(self):
        chance = random.Random(320)
        for network in some_networks(320):
            every = slow_completions(network)
            if not every:
                continue
            pairs = list(combinations(range(network.places), 2))
            found = network
            for u, v in chance.sample(pairs, len(pairs)):
                lot = possible(found, u, v)
                self.assertNotEqual(lot, ())
                found = chosen(found, [(u, v, chance.choice(lot))])
            self.assertIn(rows_of(found), every)
            # Each completion is come to so, in any order.
            for rows in [every[0], every[-1], chance.choice(every)]:
                choices = [(u, v, rows[u][v]) for u, v in chance.sample(list(permutations(range(network.places), 2)),
                                                                        2 * len(pairs))]
                self.assertEqual(rows_of(chosen(network, choices)), rows)

    def test_forty_places(self):
        chance = random.Random(41)
        for network, known in wide_networks(40, 32):
            if possible_rows(network)[0][1] == ():
                self.refused(Refused, 0, chosen, network, [(0, 1, 0)])
                continue
            rows = self.soon(filled, network)
            self.assertIs(is_completion(network, rows), True)
            pairs = chance.sample(list(permutations(range(40), 2)), 1560)
            choices = [(u, v, rows[u][v]) for u, v in pairs]
            self.assertEqual(rows_of(self.soon(chosen, network, choices)), rows)


class Filled(Case):
    def test_filled(self):
        with_one = without = 0
        for network in some_networks(33):
            first = slow_first_completion(network)
            if first is None:
                without += 1
                self.refused(Refused, 0, filled, network)
            else:
                with_one += 1
                told = filled(network=network)
                self.all_tuples(told)
                self.assertEqual(told, first)
        self.assertTrue(with_one > 40 and without > 10, (with_one, without))

    def test_pair_by_pair(self):
        for network in list(some_networks(34))[::3]:
            if slow_first_completion(network) is None:
                continue
            found = network
            for u, v in combinations(range(network.places), 2):
                found = chosen(found, [(u, v, possible(found, u, v)[0])])
            self.assertEqual(rows_of(found), filled(network))

    def test_few_places(self):
        self.assertEqual(filled(Network(order_kind(), 1, [])), ((None,),))
        self.assertEqual(filled(Network(order_kind(), 2, [(0, 1, 1)])), ((None, 1), (0, None)))
        self.assertEqual(filled(Network(sum_kind(3), 2, [])), ((None, 0), (0, None)))
        self.refused(Refused, 0, filled, Network(order_kind(), 5, LOST))

    def test_the_first_completion_of_many_places(self):
        kind = distance_kind((1, 2, 3, 4, 5))
        network = Network(kind, 40, [(0, 39, 4)] + [(u, u + 1, 1) for u in range(38)])
        rows = self.soon(filled, network)
        self.assertIs(is_completion(network, rows), True)
        self.assertEqual(rows[0][2], 0)
        rows = filled(Network(order_kind(), 40, [(39, 0, 0)]))
        self.assertEqual(rows[0][1:39], (0,) * 38)
        self.assertEqual(rows[39], (0,) * 39 + (None,))
        self.assertEqual(filled(Network(free_kind(3), 3, [(1, 2, 2)])),
                         ((None, 0, 0), (0, None, 2), (0, 2, None)))


class Refusals(Case):
    def test_not_deciding(self):
        for kind, at in APART_OR_UNMEETING:
            for network in [Network(kind, 1, []), Network(kind, 3, [(0, 1, 0)]),
                            Network(kind, 4, [(u, v, 0) for u, v in combinations(range(4), 2)])]:
                self.refused(NotDeciding, at, filled, network)
                for value in ODD_VALUES + [[(0, 1, 0)], [None]]:
                    self.refused(NotDeciding, at, chosen, network, value)


if __name__ == "__main__":
    unittest.main()
