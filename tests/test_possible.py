"""[30], [31]: what is possible, and ways against what is not."""

import random
import unittest
from itertools import combinations, permutations

from ringsdecide.built import distance_kind, free_kind, level_kind, order_kind, sum_kind
from ringsdecide.errors import NotDeciding, Refused
from ringsdecide.networks import Network
from ringsdecide.possible import is_way_against, possible, possible_rows, sure_pairs, way_against
from ringsdecide.steps import lots_of
from tests.helpers import (
    APART_OR_UNMEETING, ODD_VALUES, Case, EqualToAll, deciding_kinds, slow_completions, slow_ends,
    slow_possible_rows, slow_ways, some_network, tried_places, way_word, wide_networks,
)


def some_networks(seed):
    """Networks of deciding kinds, small enough to be tried out."""
    chance = random.Random(seed)
    for kind in deciding_kinds() + [order_kind(), sum_kind(2), level_kind(3)] * 4:
        most = tried_places(kind)
        for places, share in ((1, 1), (2, 0.5), (3, 0.7), (4, 0.5), (4, 0.7), (most, 0.4), (most, 0.6)):
            yield some_network(chance, kind, places, share)


class Possible(Case):
    def test_possible(self):
        with_one = without = 0
        for network in some_networks(30):
            rows = slow_possible_rows(network)
            told = possible_rows(network=network)
            self.all_tuples(told)
            self.assertEqual(told, rows)
            for u, v in permutations(range(network.places), 2):
                self.assertEqual(possible(network=network, u=u, v=v), rows[u][v])
            if network.places > 1 and rows[0][1] == ():
                without += 1
                self.assertEqual({lot for row in told for lot in row}, {None, ()})
            else:
                with_one += 1
        self.assertTrue(with_one > 50 and without > 20, (with_one, without))

    def test_what_all_ways_have_in_common(self):
        for network in some_networks(301):
            if not slow_completions(network):
                continue
            for u, v in permutations(range(network.places), 2):
                lots = [slow_ends(network.kind, way_word(network, way)) for way in slow_ways(network, u, v)]
                common = set(range(network.kind.relations)).intersection(*lots)
                self.assertEqual(possible(network, u, v), tuple(sorted(common)))

    def test_sure_pairs(self):
        many = 0
        for network in some_networks(302):
            rows = slow_possible_rows(network)
            sure = tuple(
                (u, v, rows[u][v][0]) for u, v in combinations(range(network.places), 2)
                if network.between(u, v) is None and len(rows[u][v]) == 1
            )
            told = sure_pairs(network=network)
            self.all_tuples(told)
            self.assertEqual(told, sure)
            many += len(told)
        self.assertGreater(many, 100)

    def test_few_places(self):
        kind = order_kind()
        self.assertEqual(possible_rows(Network(kind, 1, [])), ((None,),))
        self.assertEqual(sure_pairs(Network(kind, 1, [])), ())
        self.assertEqual(possible(Network(kind, 2, []), 1, 0), (0, 1))
        self.assertEqual(possible(Network(kind, 2, [(0, 1, 0)]), 1, 0), (1,))
        self.assertEqual(sure_pairs(Network(kind, 2, [(0, 1, 0)])), ())
        self.assertEqual(sure_pairs(Network(free_kind(1), 3, [(0, 1, 0)])), ((0, 2, 0), (1, 2, 0)))
        self.assertEqual(sure_pairs(Network(kind, 3, [(0, 1, 0), (2, 1, 1)])), ((0, 2, 0),))

    def test_no_completion(self):
        network = Network(order_kind(), 4, [(0, 1, 0), (1, 2, 0), (2, 0, 0)])
        none = tuple(tuple(None if u == v else () for v in range(4)) for u in range(4))
        self.assertEqual(possible_rows(network), none)
        for u, v in permutations(range(4), 2):
            self.assertEqual(possible(network, u, v), ())
        self.assertEqual(sure_pairs(network), ())

    def test_forty_places(self):
        for network, known in wide_networks(40, 30):
            rows = self.soon(possible_rows, network)
            self.assertTrue(not known or rows[0][1] != ())
            self.assertEqual(self.soon(possible, network, 38, 3), rows[38][3])
            sure = self.soon(sure_pairs, network)
            for u, v, x in sure:
                self.assertIsNone(network.between(u, v))
                self.assertEqual(rows[u][v], (x,))
            self.assertEqual(sure, tuple(sorted(sure)))


class WaysAgainst(Case):
    def check(self, network, u, v, x, told):
        self.assertIs(type(told), tuple)
        self.assertEqual((told[0], told[-1], len(set(told))), (u, v, len(told)))
        self.assertNotIn(x, slow_ends(network.kind, way_word(network, told)))
        self.assertIs(is_way_against(network, u, v, x, told), True)

    def test_way_against(self):
        lengths = set()
        for network in some_networks(31):
            fine = bool(slow_completions(network))
            rows = slow_possible_rows(network)
            for u, v in permutations(range(network.places), 2):
                for x in range(network.kind.relations):
                    if not fine:
                        self.refused(Refused, 1, way_against, network, u, v, x)
                    elif x in rows[u][v]:
                        self.refused(Refused, 0, way_against, network, u, v, x)
                    else:
                        told = way_against(network=network, u=u, v=v, x=x)
                        self.check(network, u, v, x, told)
                        lengths.add(len(told))
        self.assertLessEqual({2, 3, 4}, lengths)

    def test_is_way_against(self):
        chance = random.Random(311)
        for network in list(some_networks(311))[::3]:
            places = network.places
            if places == 1:
                continue
            for _ in range(3):
                u, v = chance.sample(range(places), 2)
                x = chance.randrange(network.kind.relations)
                ways = {
                    way for way in slow_ways(network, u, v)
                    if x not in slow_ends(network.kind, way_word(network, way))
                }
                for many in range(places + 1):
                    for value in permutations(range(places), many):
                        self.assertIs(is_way_against(network=network, u=u, v=v, x=x, value=value), value in ways)

    def test_a_pair_told_otherwise(self):
        network = Network(order_kind(), 3, [(0, 1, 0)])
        self.assertEqual(way_against(network, 0, 1, 1), (0, 1))
        self.assertEqual(way_against(network, 1, 0, 0), (1, 0))
        self.assertIs(is_way_against(network, 0, 1, 1, (0, 1)), True)
        self.assertIs(is_way_against(network, 0, 1, 0, (0, 1)), False)
        self.assertIs(is_way_against(network, 1, 0, 1, (0, 1)), False)
        self.assertIs(is_way_against(network, 1, 0, 1, (1, 0)), False)

    def test_without_a_completion(self):
        network = Network(order_kind(), 4, [(0, 1, 0), (1, 2, 0), (2, 0, 0), (2, 3, 0)])
        self.refused(Refused, 1, way_against, network, 0, 3, 1)
        self.refused(Refused, 1, way_against, network, 0, 1, 0)
        self.assertIs(is_way_against(network, 0, 3, 1, (0, 1, 2, 3)), True)
        self.assertIs(is_way_against(network, 0, 1, 0, (0, 2, 1)), True)
        self.assertIs(is_way_against(network, 0, 3, 0, (0, 1, 2, 3)), False)

    def test_long_ways(self):
        for kind, x, against in [(order_kind(), 0, 1), (sum_kind(5), 1, 0), (level_kind(4), 1, 2)]:
            network = Network(kind, 40, [(at, at + 1, x) for at in range(39)])
            way = tuple(range(40))
            self.assertEqual(self.soon(way_against, network, 0, 39, against), way)
            self.assertIs(is_way_against(network, 0, 39, against, way), True)
            self.assertIs(is_way_against(network, 39, 0, kind.turned[against], way[::-1]), True)
            self.assertIs(is_way_against(network, 0, 39, against, way[::-1]), False)

    def test_forty_places(self):
        chance = random.Random(40)
        found = 0
        for network, known in wide_networks(40, 31):
            kind = network.kind
            rows = possible_rows(network)
            for _ in range(2):
                u, v = chance.sample(range(40), 2)
                x = chance.randrange(kind.relations)
                if rows[0][1] == ():
                    self.refused(Refused, 1, way_against, network, u, v, x)
                elif x in rows[u][v]:
                    self.refused(Refused, 0, way_against, network, u, v, x)
                else:
                    self.check(network, u, v, x, self.soon(way_against, network, u, v, x))
                    found += 1
        self.assertGreater(found, 10)

    def test_is_way_against_of_any_value(self):
        network = Network(order_kind(), 4, [(0, 1, 0), (1, 2, 0), (2, 3, 0)])
        self.assertIs(is_way_against(network, 0, 3, 1, (0, 1, 2, 3)), True)
        for value in ODD_VALUES + [
            [0, 1, 2, 3], (False, True, 2, 3), (0, True, 2, 3), (0, 1, 2.0, 3), (0, 1, 3), (0, 1, 2), (1, 2, 3),
            (0, 1, 0, 1, 2, 3), (0, 1, 2, 3, 3), (0, 1, 2, 4), (0, 3), (3, 2, 1, 0), ((0, 1, 2, 3),),
            (0, EqualToAll(), 3), (0, None, 3), (0, [1], 2, 3), (0, 1, 2, 3, 0), (0, -1, 3), EqualToAll(),
        ]:
            self.assertIs(is_way_against(network, 0, 3, 1, value), False)
        self.assertIs(is_way_against(network, 1, 0, 0, (1, 0)), True)
        self.assertIs(is_way_against(network, 1, 0, 0, (True, False)), False)


class Refusals(Case):
    def test_not_deciding(self):
        for kind, at in APART_OR_UNMEETING:
            network = Network(kind, 3, [(0, 1, 0)])
            self.refused(NotDeciding, at, possible, network, 0, 1)
            self.refused(NotDeciding, at, possible_rows, network)
            self.refused(NotDeciding, at, sure_pairs, network)
            self.refused(NotDeciding, at, way_against, network, 0, 1, 0)
            for value in ODD_VALUES + [(0, 1)]:
                self.refused(NotDeciding, at, is_way_against, network, 0, 1, 0, value)
            lost = Network(kind, 4, [(u, v, 0) for u, v in combinations(range(4), 2)])
            self.refused(NotDeciding, at, way_against, lost, 0, 1, 0)

    def test_nothing_told(self):
        kind = distance_kind((1, 2, 3))
        network = Network(kind, 5, [])
        self.assertEqual(possible_rows(network), lots_of(network))
        self.assertEqual(sure_pairs(network), ())
        self.refused(Refused, 0, way_against, network, 0, 4, 2)


if __name__ == "__main__":
    unittest.main()
