"""[42], [43]: short ways, greatest completions, ways that are too short for what their ends are told."""

import random
import unittest
from itertools import combinations, permutations

from ringsdecide.built import distance_kind, free_kind, level_kind, order_kind
from ringsdecide.distances import bounded_sum, bracket_fault
from ringsdecide.errors import InvalidKind, InvalidQuestion, NotDeciding, Refused
from ringsdecide.networks import Network, is_completion
from ringsdecide.possible import possible_rows
from ringsdecide.shortways import greatest_completion, is_long_pair, long_pair, short_way, way_sum
from tests.helpers import (
    ODD_VALUES, Case, EqualToAll, part_of, slow_completions, slow_ways, some_network, tree_rows, way_word,
)
from tests.test_distances import NO_NUMBERS

GLUING = [(1,), (7,), (1, 2), (1, 3), (2, 3, 5), (1, 2, 3), (1, 3, 4), (2, 5, 6), (1, 2, 3, 4), (1, 2, 3, 4, 5, 6)]
APART = [(1, 2, 4), (1, 2, 3, 5), (1, 2, 4, 8, 16, 32)]


def some_networks(seed, sets):
    """(numbers, network) with few enough places to go through all full networks; some told from a full one."""
    chance = random.Random(seed)
    for numbers in sets:
        kind = distance_kind(numbers)
        most = 5 if len(numbers) < 3 else 4
        for places, share in ((1, 1), (2, 0.5), (3, 0.7), (4, 0.5), (4, 0.7), (4, 1), (most, 0.6)):
            for _ in range(2):
                network = some_network(chance, kind, places, share)
                yield numbers, network
                found = slow_completions(Network(kind, places, network.told[:2]))
                if found:
                    yield numbers, part_of(chance, kind, chance.choice(found), share)
        for _ in range(5):
            # A ring, whose longest way may be too short.
            told = [(at, (at + 1) % 4, chance.choice((0, kind.relations - 1))) for at in range(4)]
            yield numbers, Network(kind, 4, told)


def slow_way_sum(numbers, network, way):
    return bounded_sum(numbers, [numbers[x] for x in way_word(network, way)])


class Sums(Case):
    def test_way_sum(self):
        for numbers, network in some_networks(42, GLUING + APART):
            for u, v in permutations(range(network.places), 2):
                for way in slow_ways(network, u, v):
                    self.assertEqual(way_sum(numbers=numbers, network=network, way=way),
                                     slow_way_sum(numbers, network, way))

    def test_ways_refused(self):
        numbers = (1, 2, 4)
        network = Network(distance_kind(numbers), 4, [(0, 1, 0), (1, 2, 1), (2, 3, 2)])
        self.assertEqual(way_sum(numbers, network, (0, 1, 2, 3)), 4)
        self.assertEqual(way_sum(numbers, network, (2, 1)), 2)
        for value in ODD_VALUES + [
            [0, 1], (0,), (0, 0), (0, 2), (0, 1, 0), (0, 1, 2, 1), (0, 1, 4), (-1, 0), (False, True), (0, True),
            (0.0, 1), ((0, 1),), (0, 1, None), (0, [1]), (0, (1,)), "01", EqualToAll(), (0, EqualToAll()),
        ]:
            self.refused(InvalidQuestion, 0, way_sum, numbers, network, value)

    def test_parts(self):
        # The bounded sum of a way is that of its parts, one behind the other, and of the way read from its end.
        for numbers, network in some_networks(421, GLUING):
            for u, v in permutations(range(network.places), 2):
                for way in slow_ways(network, u, v):
                    total = way_sum(numbers, network, way)
                    self.assertEqual(way_sum(numbers, network, way[::-1]), total)
                    for at in range(1, len(way) - 1):
                        parts = [way_sum(numbers, network, way[:at + 1]), way_sum(numbers, network, way[at:])]
                        self.assertEqual(bounded_sum(numbers, parts), total)


class ShortWays(Case):
    def test_short_way(self):
        none = some = 0
        for numbers, network in some_networks(422, GLUING):
            for u, v in permutations(range(network.places), 2):
                sums = [slow_way_sum(numbers, network, way) for way in slow_ways(network, u, v)]
                told = short_way(numbers=numbers, network=network, u=u, v=v)
                if not sums:
                    none += 1
                    self.assertIs(told, None)
                else:
                    some += 1
                    self.assertIs(type(told), tuple)
                    self.assertEqual((told[0], told[-1]), (u, v))
                    self.assertEqual(way_sum(numbers, network, told), min(sums))
        self.assertTrue(none > 20 and some > 100, (none, some))

    def test_detours(self):
        numbers = (1, 2, 3, 4, 5, 6)
        network = Network(distance_kind(numbers), 5, [(0, 4, 5), (0, 1, 0), (1, 2, 0), (2, 4, 1), (0, 3, 2)])
        self.assertEqual(short_way(numbers, network, 0, 4), (0, 1, 2, 4))
        self.assertEqual(short_way(numbers, network, 4, 0), (4, 2, 1, 0))
        far = (1, 10 ** 12, 10 ** 30)
        network = Network(distance_kind(far), 3, [(0, 1, 2), (1, 2, 0)])
        self.assertEqual(way_sum(far, network, (0, 1, 2)), 10 ** 30)
        self.assertEqual(short_way(far, network, 0, 2), (0, 1, 2))


class Greatest(Case):
    def test_greatest_completion(self):
        with_one = without = 0
        for numbers, network in some_networks(43, GLUING):
            every = slow_completions(network)
            told = greatest_completion(numbers=numbers, network=network)
            self.all_tuples(told)
            if not every:
                without += 1
                self.assertIs(told, None)
                continue
            with_one += 1
            places = range(network.places)
            self.assertEqual(told, tuple(
                tuple(None if u == v else max(rows[u][v] for rows in every) for v in places) for u in places
            ))
            self.assertIn(told, every)
            for u, v in permutations(places, 2):
                sums = [slow_way_sum(numbers, network, way) for way in slow_ways(network, u, v)]
                self.assertEqual(numbers[told[u][v]], min(sums, default=numbers[-1]))
        self.assertTrue(with_one > 50 and without > 10, (with_one, without))

    def test_long_pair(self):
        lengths = set()
        for numbers, network in some_networks(431, GLUING):
            told = long_pair(numbers=numbers, network=network)
            if slow_completions(network):
                self.assertIs(told, None)
                continue
            self.assertIs(type(told), tuple)
            x = network.between(told[0], told[-1])
            self.assertGreater(numbers[x], way_sum(numbers, network, told))
            self.assertIs(is_long_pair(numbers, network, told), True)
            lengths.add(len(told))
        self.assertLessEqual({3, 4}, lengths)

    def test_is_long_pair(self):
        many = 0
        for numbers, network in some_networks(432, GLUING[3:] + APART):
            wanted = set()
            for u, v in permutations(range(network.places), 2):
                for way in slow_ways(network, u, v):
                    x = network.between(u, v)
                    if x is not None and numbers[x] > slow_way_sum(numbers, network, way):
                        wanted.add(way)
            many += len(wanted)
            for size in range(network.places + 1):
                for value in permutations(range(network.places), size):
                    self.assertIs(is_long_pair(numbers=numbers, network=network, value=value), value in wanted)
            if wanted:
                self.assertEqual(slow_completions(network), [])
        self.assertGreater(many, 100)

    def test_is_long_pair_of_any_value(self):
        numbers = (1, 2, 3, 4)
        network = Network(distance_kind(numbers), 4, [(0, 1, 0), (1, 2, 0), (0, 2, 3), (2, 3, 0)])
        self.assertIs(is_long_pair(numbers, network, (0, 1, 2)), True)
        for value in ODD_VALUES + [[0, 1, 2], (False, True, 2), (0, 1, 2, 0), (0, 2), (0, 1), (0, 1, 2, 3), (2, 3, 0),
                                   (0, 1, 2.0), (0, [1], 2), (0, 3, 2), (0, 1, 2, 4), ((0, 1, 2),), EqualToAll(),
                                   (0, EqualToAll(), 2), (1, 2, 0, 1)]:
            self.assertIs(is_long_pair(numbers, network, value), False)

    def test_few_told(self):
        for numbers in GLUING:
            kind = distance_kind(numbers)
            self.assertEqual(greatest_completion(numbers, Network(kind, 1, [])), ((None,),))
            self.assertIs(long_pair(numbers, Network(kind, 1, [])), None)
            last = len(numbers) - 1
            rows = tuple(tuple(None if u == v else last for v in range(4)) for u in range(4))
            network = Network(kind, 4, [])
            self.assertEqual(greatest_completion(numbers, network), rows)
            self.assertIs(long_pair(numbers, network), None)
            self.assertIs(short_way(numbers, network, 0, 3), None)
            network = Network(kind, 2, [(1, 0, 0)])
            self.assertEqual(greatest_completion(numbers, network), ((None, 0), (0, None)))
            self.assertEqual(short_way(numbers, network, 0, 1), (0, 1))

    def test_least_distances_need_not_stand_together(self):
        numbers = (1, 2, 3, 4)
        network = Network(distance_kind(numbers), 4, [(0, 1, 3), (1, 2, 1), (2, 3, 0)])
        rows = tuple(tuple(None if u == v else possible_rows(network)[u][v][0] for v in range(4)) for u in range(4))
        self.assertEqual([numbers[rows[u][v]] for u, v in combinations(range(4), 2)], [4, 2, 1, 2, 1, 1])
        self.assertIs(is_completion(network, rows), False)
        self.assertIs(is_completion(network, greatest_completion(numbers, network)), True)

    def test_forty_places(self):
        chance = random.Random(44)
        for numbers in [(1, 2, 3, 4, 5, 6), (1, 2, 3, 4, 5)]:
            kind = distance_kind(numbers)
            for share, wrong in ((0, 0), (0.05, 0), (0.05, 4), (0.4, 0), (0.4, 1), (1, 0), (1, 3)):
                network = part_of(chance, kind, tree_rows(chance, 40, len(numbers)), share, wrong)
                rows = self.soon(greatest_completion, numbers, network)
                pair = self.soon(long_pair, numbers, network)
                self.assertIs(pair is None, rows is not None)
                if pair is None:
                    self.assertIs(is_completion(network, rows), True)
                else:
                    self.assertIs(is_long_pair(numbers, network, pair), True)
                for u, v in ((0, 39), (17, 3)):
                    way = self.soon(short_way, numbers, network, u, v)
                    if rows is not None:
                        total = numbers[-1] if way is None else way_sum(numbers, network, way)
                        self.assertEqual(total, numbers[rows[u][v]])

    def test_long_ways(self):
        numbers = (1, 2, 3, 4, 50, 60)
        network = Network(distance_kind(numbers), 40, [(at, at + 1, 0) for at in range(39)] + [(0, 39, 4)])
        way = tuple(range(40))
        self.assertEqual(way_sum(numbers, network, way), 4)
        self.assertIs(is_long_pair(numbers, network, way), True)
        self.assertEqual(long_pair(numbers, network), way)
        self.assertIs(greatest_completion(numbers, network), None)


class Refusals(Case):
    def test_numbers_ahead_of_all(self):
        network = Network(order_kind(), 2, [])
        for numbers, at in NO_NUMBERS:
            self.refused(InvalidKind, at, way_sum, numbers, network, None)
            self.refused(InvalidKind, at, short_way, numbers, network, 0, 1)
            self.refused(InvalidKind, at, greatest_completion, numbers, network)
            self.refused(InvalidKind, at, long_pair, numbers, network)
            self.refused(InvalidKind, at, is_long_pair, numbers, network, None)

    def test_another_kind(self):
        for numbers, kind in [((1, 2), order_kind()), ((1, 2), distance_kind((1, 3))), ((1, 2), level_kind(3)),
                              ((1, 2, 4), distance_kind((1, 2, 3))), ((1, 2, 4), order_kind()),
                              ((1, 2, 3), distance_kind((1, 2, 4)))]:
            network = Network(kind, 3, [(0, 1, 0)])
            self.refused(Refused, 0, way_sum, numbers, network, None)
            self.refused(Refused, 0, way_sum, numbers, network, (0, 1))
            self.refused(Refused, 0, short_way, numbers, network, 0, 1)
            self.refused(Refused, 0, greatest_completion, numbers, network)
            self.refused(Refused, 0, long_pair, numbers, network)
            self.refused(Refused, 0, is_long_pair, numbers, network, None)

    def test_an_equal_kind(self):
        # The kinds of (1, 2) and of (5, 10) are equal, and free; so networks of the one are such of the other.
        network = Network(free_kind(2), 3, [(0, 1, 1)])
        self.assertEqual(way_sum((1, 2), network, (0, 1)), 2)
        self.assertEqual(way_sum((5, 10), network, (0, 1)), 10)

    def test_kinds_that_do_not_glue(self):
        for numbers in APART:
            self.assertIsNotNone(bracket_fault(numbers))
            network = Network(distance_kind(numbers), 3, [(0, 1, 2)])
            self.refused(NotDeciding, 0, short_way, numbers, network, 0, 1)
            self.refused(NotDeciding, 0, greatest_completion, numbers, network)
            self.refused(NotDeciding, 0, long_pair, numbers, network)
            self.assertEqual(way_sum(numbers, network, (0, 1)), numbers[2])
            self.refused(InvalidQuestion, 0, way_sum, numbers, network, (0, 2))
            self.assertIs(is_long_pair(numbers, network, (0, 1)), False)
        numbers = (1, 2, 4)
        network = Network(distance_kind(numbers), 3, [(0, 1, 0), (1, 2, 0), (0, 2, 2)])
        self.assertIs(is_long_pair(numbers, network, (0, 1, 2)), True)


if __name__ == "__main__":
    unittest.main()
