"""[19], [20]: networks and completions."""

import random
import unittest
from itertools import combinations

from ringsdecide.built import barred_kind, distance_kind, free_kind, level_kind, order_kind, sector_kind, sum_kind
from ringsdecide.errors import InvalidNetwork, Refused
from ringsdecide.fullnets import is_full
from ringsdecide.kinds import Kind
from ringsdecide.networks import Network, is_completion, rows_of, tried_completion, with_told
from tests.helpers import (
    ODD_VALUES, Case, EqualToAll, all_but_threes, slow_first_completion, slow_full_networks, small_kinds, some_kinds,
)


class Networks(Case):
    def test_attributes(self):
        kind = order_kind()
        network = Network(kind, 4, [(3, 1, 0), (0, 2, 1), (0, 1, 0)])
        self.assertEqual(network.kind, kind)
        self.assertEqual(network.places, 4)
        self.assertEqual(network.told, ((0, 1, 0), (0, 2, 1), (1, 3, 1)))
        self.all_tuples(network.told)
        self.assertEqual(Network(kind, 1, ()).told, ())

    def test_arguments_by_name_and_kept_as_they_are(self):
        told = [(1, 0, 0)]
        network = Network(told=told, kind=order_kind(), places=2)
        self.assertEqual(told, [(1, 0, 0)])
        told.append((0, 1, 0))
        self.assertEqual(network.told, ((0, 1, 1),))
        self.assertEqual(network.between(u=0, v=1), 1)
        self.assertEqual(rows_of(network=network), ((None, 1), (0, None)))
        self.assertEqual(tried_completion(network=network), ((None, 1), (0, None)))
        self.assertIs(is_completion(network=network, value=((None, 1), (0, None))), True)
        wider = Network(order_kind(), 3, [])
        self.assertEqual(with_told(network=wider, u=2, v=0, x=0).told, ((0, 2, 1),))
        self.assertEqual(wider.told, ())

    def test_equal(self):
        kind = order_kind()
        network = Network(kind, 3, [(0, 1, 0), (2, 1, 1)])
        self.assertEqual(network, Network(order_kind(), 3, ((1, 2, 0), (1, 0, 1))))
        self.assertNotEqual(network, Network(kind, 4, [(0, 1, 0), (2, 1, 1)]))
        self.assertNotEqual(network, Network(kind, 3, [(0, 1, 0)]))
        self.assertNotEqual(network, Network(kind, 3, [(0, 1, 0), (2, 1, 0)]))
        self.assertNotEqual(network, Network(Kind((1, 0), []), 3, [(0, 1, 0), (2, 1, 1)]))
        for value in ODD_VALUES + [kind, EqualToAll(), network.told]:
            self.assertIs(network == value, False)
            self.assertIs(kind == network, False)

    def test_between(self):
        kind = sum_kind(5)
        network = Network(kind, 3, [(2, 0, 1)])
        self.assertEqual([network.between(2, 0), network.between(0, 2)], [1, 4])
        self.assertIsNone(network.between(0, 1))
        self.assertIsNone(network.between(1, 2))
        self.assertEqual(Network(kind, 2, [(0, 1, 0)]).between(1, 0), 0)

    def test_places_refused(self):
        for value in ODD_VALUES + [0, -3]:
            if value == 7 or type(value) is int and value > 0:
                continue
            self.refused(InvalidNetwork, 0, Network, order_kind(), value, [])
            self.refused(InvalidNetwork, 0, Network, order_kind(), value, None)

    def test_told_refused(self):
        kind = order_kind()
        for value in ODD_VALUES:
            if type(value) not in (list, tuple):
                self.refused(InvalidNetwork, 1, Network, kind, 3, value)
            self.refused(InvalidNetwork, 1, Network, kind, 3, [value])
            self.refused(InvalidNetwork, 3, Network, kind, 3, [(0, 1, 0), (0, 2, 0), value, None])
        for entry in [
            (0, 0, 0), (0, 3, 0), (-1, 0, 0), (1, 2, 2), (1, 2, -1), (True, 2, 0), (1, 2, True), (1, False, 0), (1, 2),
            (1, 2, 0, 0), [1, 2, 0], (1.0, 2, 0), (1, 2, 0.0), (None, 1, 0), (1, 2, None), (1, 2, [0]), "120",
            (EqualToAll(), 2, 0), (1, EqualToAll(), 0), (1, 2, EqualToAll()), (1, 0, 1), (0, 1, 0), (0, 1, 1),
            (1, 0, 0), ((1,), 2, 0), ([1], 2, 0),
        ]:
            self.refused(InvalidNetwork, 2, Network, kind, 3, [(0, 1, 0), entry])
            self.refused(InvalidNetwork, 2, Network, kind, 3, ((0, 1, 0), entry, (0, 0, 0)))

    def test_with_told(self):
        kind = sum_kind(3)
        network = Network(kind, 3, [(0, 2, 1)])
        self.assertEqual(with_told(network, 2, 1, 1), Network(kind, 3, [(0, 2, 1), (1, 2, 2)]))
        self.assertEqual(network.told, ((0, 2, 1),))
        for told in [(0, 2, 1), (2, 0, 2), (0, 2, 0), (2, 0, 0)]:
            self.refused(Refused, 0, with_told, network, *told)

    def test_rows_of(self):
        network = Network(sum_kind(3), 3, [(2, 1, 1)])
        self.assertEqual(rows_of(network), ((None, None, None), (None, None, 2), (None, 1, None)))
        self.all_tuples(rows_of(network))
        self.assertEqual(rows_of(Network(order_kind(), 1, [])), ((None,),))


class Completions(Case):
    def some_networks(self, kind, places, seed):
        """Some networks, with few and many told pairs."""
        chance = random.Random(seed)
        pairs = list(combinations(range(places), 2))
        for _ in range(12):
            told = chance.sample(pairs, chance.randrange(len(pairs) + 1))
            yield Network(kind, places, [(u, v, chance.randrange(kind.relations)) for u, v in told])

    def test_tried_out(self):
        for at, kind in enumerate(small_kinds() + [order_kind(), level_kind(3), sector_kind(3)]):
            for places in range(1, 5):
                every = slow_full_networks(kind, places) if kind.relations < 3 or places < 4 else ()
                for network in self.some_networks(kind, places, at):
                    fits = [rows for rows in every if all(rows[u][v] == x for u, v, x in network.told)]
                    for rows in every:
                        self.assertIs(is_completion(network, rows), rows in fits)
                    if every or places < 4:
                        self.assertEqual(tried_completion(network), fits[0] if fits else None)

    def test_five_places_in_order(self):
        for at, kind in enumerate(some_kinds(2, 14, 50)):
            every = slow_full_networks(kind, 5)
            for network in self.some_networks(kind, 5, at):
                fits = [rows for rows in every if all(rows[u][v] == x for u, v, x in network.told)]
                self.assertEqual(tried_completion(network), fits[0] if fits else None)
                self.all_tuples(tried_completion(network))

    def test_the_first_one(self):
        # Few told pairs leave places that may be exchanged; some of these are told something of each other.
        chance = random.Random(60)
        for at, kind in enumerate(list(some_kinds(3, 60, 61)) + list(some_kinds(4, 60, 62))):
            for places in (5, 6):
                pairs = list(combinations(range(places), 2))
                told = [(u, v, chance.randrange(kind.relations)) for u, v in chance.sample(pairs, at % 4)]
                network = Network(kind, places, told)
                self.assertEqual(tried_completion(network), slow_first_completion(network))
                alike = Network(kind, places, [(u, v, at % kind.relations) for u, v, _ in told])
                self.assertEqual(tried_completion(alike), slow_first_completion(alike))

    def test_small_ones(self):
        self.assertEqual(tried_completion(Network(order_kind(), 1, [])), ((None,),))
        self.assertEqual(tried_completion(Network(Kind((0, 1), []), 2, [])), ((None, 0), (0, None)))
        self.assertEqual(tried_completion(Network(Kind((0, 1), []), 2, [(1, 0, 1)])), ((None, 1), (1, None)))
        self.assertIsNone(tried_completion(Network(Kind((0, 1), []), 3, [])))

    def test_eight_places(self):
        kind = order_kind()
        ring = Network(kind, 8, [(u, (u + 1) % 8, 0) for u in range(8)])
        self.assertIsNone(tried_completion(ring))
        row = Network(kind, 8, [(u + 1, u, 0) for u in range(7)])
        rows = tried_completion(row)
        self.assertEqual(rows, tuple(tuple(None if u == v else int(u < v) for v in range(8)) for u in range(8)))
        self.assertIs(is_completion(row, rows), True)
        self.assertIsNone(tried_completion(Network(all_but_threes(2), 8, [])))
        for kind in [all_but_threes(3), distance_kind((1, 2, 3, 4, 5, 6)), free_kind(6), sector_kind(6)]:
            network = Network(kind, 8, [(0, 7, 1), (3, 4, 2), (6, 1, 0)])
            self.assertIs(is_completion(network, tried_completion(network)), True)

    def test_eight_places_of_which_little_is_told(self):
        # Exchanging places must not be tried out again and again, nor change which completion is the first.
        kind = barred_kind((3, 2, 1, 0), [(0, 0, 0), (0, 0, 1), (1, 1, 1), (1, 1, 2)])
        self.assertIsNone(tried_completion(Network(kind, 8, [])))
        self.assertIsNone(tried_completion(Network(kind, 8, [(2, 5, 1)])))
        five = all_but_threes(2)
        every = slow_full_networks(five, 5)
        self.assertEqual(tried_completion(Network(five, 5, [])), every[0])
        for told in [[(0, 1, 1)], [(3, 4, 0)], [(1, 4, 0), (2, 4, 0)], [(0, 1, 0), (0, 2, 1), (0, 3, 1)]]:
            fits = [rows for rows in every if all(rows[u][v] == x for u, v, x in told)]
            self.assertEqual(tried_completion(Network(five, 5, told)), fits[0] if fits else None)

    def test_forty_places(self):
        kind = order_kind()
        pairs = list(combinations(range(40), 2))
        network = Network(kind, 40, [(v, u, 1) for u, v in pairs])
        self.assertEqual(network.told, tuple((u, v, 0) for u, v in pairs))
        self.assertIs(is_completion(network, rows_of(network)), True)
        other = Network(kind, 40, [(39, 0, 0)])
        self.assertIs(is_completion(other, rows_of(network)), False)
        self.assertIs(is_completion(other, rows_of(other)), False)
        self.assertEqual(with_told(other, 38, 39, 1).told, ((0, 39, 1), (38, 39, 1)))

    def test_is_completion_of_any_value(self):
        kind = order_kind()
        network = Network(kind, 2, [(0, 1, 0)])
        good = ((None, 0), (1, None))
        self.assertIs(is_completion(network, good), True)
        for value in ODD_VALUES + [list(good), ([None, 0], [1, None]), ((None, 1), (0, None)), ((None,),),
                                   ((None, False), (True, None)), ((None, 0), (0, None)), (good,), good + good]:
            self.assertIs(is_completion(network, value), False)
        three = ((None, 0, 0), (1, None, 0), (1, 1, None))
        self.assertIs(is_full(kind, three), True)
        self.assertIs(is_completion(network, three), False)
        self.assertIs(is_completion(Network(kind, 1, []), ((None,),)), True)
        self.assertIs(is_completion(Network(kind, 1, []), ()), False)


if __name__ == "__main__":
    unittest.main()
