"""[37], [38], [39]: half-told networks."""

import random
import unittest
from itertools import combinations, permutations

from ringsdecide.built import barred_kind, distance_kind, free_kind, level_kind, order_kind, sector_kind, sum_kind
from ringsdecide.deciding import verdict
from ringsdecide.errors import InvalidNetwork, NotDeciding, Refused
from ringsdecide.halftold import (
    HalfTold, half_filled, half_lots, half_possible, is_half_completion, is_way_of_lots, soft_lots, unfolded,
    way_of_lots,
)
from ringsdecide.kinds import Kind
from ringsdecide.networks import Network
from ringsdecide.possible import possible_rows
from ringsdecide.steps import are_lots, lots_of, stepped
from ringsdecide.ways import joined, way_lots, word_of
from tests.helpers import (
    APART_OR_UNMEETING, ODD_VALUES, Case, EqualToAll, clock_rows, deciding_kinds, level_rows, row_rows,
    slow_completions, slow_ends, slow_full_networks, small_kinds, some_kinds, tree_rows, tried_places,
)


def slow_soft_lots(kind):
    """What any lots of ways have in common, unless it is empty; and all relations."""
    found = {tuple(range(kind.relations))}
    lots = [set(lot) for lot in way_lots(kind)]
    for many in range(1, len(lots) + 1):
        for some in combinations(lots, many):
            found.add(tuple(sorted(set.intersection(*some))))
    return tuple(sorted(found - {()}))


def turned_lot(kind, lot):
    return tuple(sorted(kind.turned[x] for x in lot))


def some_half(chance, kind, places, share):
    """A half-told network with about this share of the pairs told, in either order."""
    soft = soft_lots(kind)
    told = []
    for u, v in combinations(range(places), 2):
        if chance.random() < share:
            told.append((u, v, chance.choice(soft)) if chance.random() < 0.5 else (v, u, chance.choice(soft)))
    chance.shuffle(told)
    return HalfTold(kind, places, told)


def some_halves(seed):
    """Half-told networks, small enough to be tried out."""
    chance = random.Random(seed)
    for kind in deciding_kinds() + [order_kind(), sum_kind(2), distance_kind((1, 2, 3)), level_kind(3)] * 4:
        for places, share in ((1, 1), (2, 0.7), (3, 0.9), (4, 0.6), (4, 1), (tried_places(kind), 0.7)):
            yield some_half(chance, kind, places, share)


def slow_half_completions(half):
    """All full networks that have a relation of the lot on each told pair."""
    return [
        rows for rows in slow_completions(Network(half.kind, half.places, []))
        if all(rows[u][v] in lot for u, v, lot in half.told)
    ]


def slow_half_possible(half):
    found = slow_half_completions(half)
    places = range(half.places)
    return tuple(
        tuple(None if u == v else tuple(sorted({rows[u][v] for rows in found})) for v in places) for u in places
    )


def told_lot(half, u, v):
    """The lot told from u to v, or all relations."""
    for a, b, lot in half.told:
        if (a, b) == (u, v):
            return lot
        if (b, a) == (u, v):
            return turned_lot(half.kind, lot)
    return tuple(range(half.kind.relations))


def slow_left(half, way):
    """The relations that the lots along a way leave to its ends."""
    left = told_lot(half, way[0], way[1])
    for u, v in zip(way[1:], way[2:]):
        left = joined(half.kind, left, told_lot(half, u, v))
    return left


def wide_halves(places, seed):
    """Half-told networks with so many places, lots around the relations of a full network; others by chance."""
    chance = random.Random(seed)
    for kind, rows in [
        (order_kind(), row_rows(chance, places)), (sum_kind(5), clock_rows(chance, places, 5)),
        (level_kind(5), level_rows(places, 5)), (distance_kind((1, 2, 3, 4, 5)), tree_rows(chance, places, 5)),
        (distance_kind((1, 2, 3)), tree_rows(chance, places, 3)),
    ]:
        soft = soft_lots(kind)
        for share in (0.1, 0.5, 1):
            told = []
            for u, v in combinations(range(places), 2):
                if chance.random() < share:
                    told.append((u, v, chance.choice([lot for lot in soft if rows[u][v] in lot])))
            yield HalfTold(kind, places, told), True
            yield some_half(chance, kind, places, share), None


class Soft(Case):
    def test_soft_lots(self):
        for kind in small_kinds() + list(some_kinds(4, 25, 37)) + [sector_kind(4), sum_kind(5), order_kind()]:
            told = soft_lots(kind=kind)
            self.all_tuples(told)
            self.assertEqual(told, slow_soft_lots(kind))
            self.assertIn(tuple(range(kind.relations)), told)
            for lot in way_lots(kind):
                self.assertTrue(lot == () or lot in told)

    def test_known_ones(self):
        self.assertEqual(soft_lots(order_kind()), ((0,), (0, 1), (1,)))
        self.assertEqual(soft_lots(sum_kind(3)), ((0,), (0, 1, 2), (1,), (2,)))
        self.assertEqual(soft_lots(level_kind(3)), ((0,), (0, 1), (0, 1, 2), (1,), (2,)))
        self.assertEqual(soft_lots(distance_kind((1, 2, 3))), ((0,), (0, 1), (0, 1, 2), (1,), (1, 2), (2,)))
        self.assertEqual(soft_lots(free_kind(2)), ((0,), (0, 1), (1,)))
        self.assertEqual(soft_lots(Kind((0,), [])), ((0,),))
        # What two lots of ways have in common need not be one.
        kind = distance_kind((1, 2, 3, 4, 5))
        self.assertNotIn((1, 2), way_lots(kind))
        self.assertIn((1, 2), soft_lots(kind))


class Halves(Case):
    def test_attributes(self):
        kind = distance_kind((1, 2, 3))
        half = HalfTold(kind=kind, places=4, told=[(3, 1, (0, 1)), (0, 2, (2,)), (0, 1, (0, 1, 2))])
        self.assertEqual(half.kind, kind)
        self.assertEqual(half.places, 4)
        self.assertEqual(half.told, ((0, 1, (0, 1, 2)), (0, 2, (2,)), (1, 3, (0, 1))))
        self.all_tuples(half.told)
        half = HalfTold(order_kind(), 3, ((2, 0, (0,)), (1, 0, (1,)), (1, 2, (0, 1))))
        self.assertEqual(half.told, ((0, 1, (0,)), (0, 2, (1,)), (1, 2, (0, 1))))
        self.assertEqual(HalfTold(order_kind(), 1, []).told, ())

    def test_turned_lots(self):
        for kind in deciding_kinds():
            for lot in soft_lots(kind):
                half = HalfTold(kind, 2, [(1, 0, lot)])
                self.assertEqual(half.told, ((0, 1, turned_lot(kind, lot)),))
                self.assertEqual(half, HalfTold(kind, 2, half.told))

    def test_kept_as_they_are(self):
        told = [(1, 0, (0,))]
        half = HalfTold(order_kind(), 2, told)
        self.assertEqual(told, [(1, 0, (0,))])
        told.append((0, 1, (0,)))
        self.assertEqual(half.told, ((0, 1, (1,)),))

    def test_equal(self):
        kind = order_kind()
        half = HalfTold(kind, 3, [(0, 1, (0,)), (2, 1, (0, 1))])
        self.assertEqual(half, HalfTold(order_kind(), 3, ((1, 2, (0, 1)), (1, 0, (1,)))))
        for other in [HalfTold(kind, 4, half.told), HalfTold(kind, 3, half.told[:1]),
                      HalfTold(kind, 3, [(0, 1, (1,)), (1, 2, (0, 1))]), HalfTold(free_kind(2), 3, half.told),
                      Network(kind, 3, [(0, 1, 0)]), kind, half.told, EqualToAll()] + ODD_VALUES:
            self.assertIs(half == other, False)
            self.assertIs(half != other, True)
        # A pair of which all relations are told is a told pair.
        self.assertNotEqual(HalfTold(kind, 2, []), HalfTold(kind, 2, [(0, 1, (0, 1))]))
        self.assertIs(Network(kind, 3, []) == HalfTold(kind, 3, []), False)

    def test_places_refused(self):
        for value in ODD_VALUES + [0, -3, True, 2.0, "2"]:
            if type(value) is int and value > 0:
                continue
            self.refused(InvalidNetwork, 0, HalfTold, order_kind(), value, [])
            self.refused(InvalidNetwork, 0, HalfTold, order_kind(), value, None)

    def test_told_refused(self):
        kind = order_kind()
        good = (0, 1, (0,))
        for value in ODD_VALUES:
            if type(value) not in (list, tuple):
                self.refused(InvalidNetwork, 1, HalfTold, kind, 3, value)
            self.refused(InvalidNetwork, 3, HalfTold, kind, 3, [good, (1, 2, (0, 1)), value, None])
            if not (type(value) is tuple and value == (0,)):
                self.refused(InvalidNetwork, 2, HalfTold, kind, 3, (good, (1, 2, value)))
        for entry in [
            [1, 2, (0,)], (1, 2), (1, 2, (0,), 0), (1, 2, [0]), (1, 2, 0), (1, 2, ()), (1, 2, (1, 0)), (1, 2, (0, 0)),
            (1, 2, (2,)), (1, 2, (0, 2)), (1, 2, (False,)), (1, 2, (True,)), (1, 2, (0, True)), (True, 2, (0,)),
            (1, False, (0,)), (1, 1, (0,)), (1, 3, (0,)), (-1, 2, (0,)), (1.0, 2, (0,)), (0, 1, (0,)), (1, 0, (1,)),
            (1, 0, (0, 1)), ((1, 2, (0,)),), (1, 2, ((0,),)), (1, 2, (EqualToAll(),)), (EqualToAll(), 2, (0,)),
            (1, 2, (0, 1, 2)), (1, 2, (-1,)), (1, 2, None),
        ]:
            self.refused(InvalidNetwork, 2, HalfTold, kind, 3, [good, entry])
            self.refused(InvalidNetwork, 2, HalfTold, kind, 3, (good, entry, entry))

    def test_lots_that_are_not_soft(self):
        for kind, lot in [(distance_kind((1, 2, 3)), (0, 2)), (level_kind(3), (1, 2)),
                          (sum_kind(3), (0, 1)), (free_kind(3), (0, 2)),
                          (distance_kind((1, 2, 3, 4, 5)), (0, 3)), (order_kind(), ())]:
            self.assertNotIn(lot, soft_lots(kind))
            self.refused(InvalidNetwork, 1, HalfTold, kind, 3, [(0, 1, lot)])
            self.refused(InvalidNetwork, 2, HalfTold, kind, 3, [(0, 1, (0,)), (2, 1, lot)])
        for kind in deciding_kinds():
            soft = soft_lots(kind)
            for many in range(kind.relations + 1):
                for lot in combinations(range(kind.relations), many):
                    if lot in soft:
                        self.assertEqual(HalfTold(kind, 2, [(0, 1, lot)]).told, ((0, 1, lot),))
                    else:
                        self.refused(InvalidNetwork, 1, HalfTold, kind, 2, [(0, 1, lot)])

    def test_not_deciding_ahead_of_all_else(self):
        for kind, at in APART_OR_UNMEETING:
            for places in (1, 3, 0, None, True):
                for told in ([], None, [(0, 1, (0,))], [None]):
                    self.refused(NotDeciding, at, HalfTold, kind, places, told)


class Completions(Case):
    def test_half_lots(self):
        half = HalfTold(order_kind(), 3, [(2, 0, (0,)), (0, 1, (0, 1))])
        both = (0, 1)
        self.assertEqual(half_lots(half=half), ((None, both, (1,)), (both, None, both), ((0,), both, None)))
        self.assertEqual(half_lots(HalfTold(order_kind(), 1, [])), ((None,),))
        for half in list(some_halves(38))[::5]:
            lots = half_lots(half)
            self.assertIs(are_lots(half.kind, lots), True)
            for u, v in permutations(range(half.places), 2):
                self.assertEqual(lots[u][v], told_lot(half, u, v))

    def test_is_half_completion(self):
        chance = random.Random(380)
        for half in list(some_halves(380))[::2]:
            fits = set(slow_half_completions(half))
            every = slow_completions(Network(half.kind, half.places, []))
            for rows in every[:20] + chance.sample(every, min(20, len(every))):
                self.assertIs(is_half_completion(half=half, value=rows), rows in fits)
            more = slow_full_networks(half.kind, min(half.places + 1, 3))
            for rows in more[:5]:
                if len(rows) != half.places:
                    self.assertIs(is_half_completion(half, rows), False)

    def test_is_half_completion_of_any_value(self):
        half = HalfTold(order_kind(), 2, [(0, 1, (0,))])
        good = ((None, 0), (1, None))
        self.assertIs(is_half_completion(half, good), True)
        for value in ODD_VALUES + [list(good), ([None, 0], [1, None]), ((None, 1), (0, None)), ((None,),), (good,),
                                   ((None, False), (True, None)), ((None, 0), (0, None)), good + good,
                                   ((None, (0,)), ((1,), None)), EqualToAll()]:
            self.assertIs(is_half_completion(half, value), False)
        self.assertIs(is_half_completion(HalfTold(order_kind(), 2, [(0, 1, (0, 1))]), ((None, 1), (0, None))), True)
        self.assertIs(is_half_completion(HalfTold(order_kind(), 1, []), ((None,),)), True)

    def test_half_possible(self):
        with_one = without = cut = 0
        for half in some_halves(39):
            told = half_possible(half=half)
            self.all_tuples(told)
            self.assertEqual(told, slow_half_possible(half))
            self.assertEqual(told, stepped(half.kind, half_lots(half)))
            lost = half.places > 1 and told[0][1] == ()
            with_one += not lost
            without += lost
            cut += not lost and told != half_lots(half)
            if lost:
                self.assertEqual({lot for row in told for lot in row}, {None, ()})
        self.assertTrue(with_one > 50 and without > 20 and cut > 20, (with_one, without, cut))

    def test_half_filled(self):
        for half in some_halves(381):
            every = slow_half_completions(half)
            if every:
                told = half_filled(half=half)
                self.all_tuples(told)
                self.assertEqual(told, min(every, key=lambda rows: [rows[u][v] for u, v in
                                                                    combinations(range(half.places), 2)]))
                self.assertIs(is_half_completion(half, told), True)
            else:
                self.refused(Refused, 0, half_filled, half)

    def test_told_as_a_network(self):
        chance = random.Random(382)
        for kind in deciding_kinds():
            half = some_half(chance, kind, 4, 0.6)
            told = [(u, v, lot[0]) for u, v, lot in half.told if len(lot) == 1]
            single = HalfTold(kind, 4, [(u, v, (x,)) for u, v, x in told])
            self.assertEqual(half_lots(single), lots_of(Network(kind, 4, told)))
            self.assertEqual(half_possible(single), possible_rows(Network(kind, 4, told)))

    def test_lots_that_are_not_soft_may_fail(self):
        # Four hours cannot be different modulo 3, but no step shows it.
        kind = sum_kind(3)
        lots = tuple(tuple(None if u == v else (1, 2) for v in range(4)) for u in range(4))
        self.assertEqual(stepped(kind, lots), lots)
        self.assertEqual([rows for rows in slow_full_networks(kind, 4)
                          if all(rows[u][v] != 0 for u, v in combinations(range(4), 2))], [])

    def test_forty_places(self):
        lost = 0
        for half, known in wide_halves(40, 38):
            rows = self.soon(half_possible, half)
            self.assertIs(are_lots(half.kind, rows), True)
            if rows[0][1] == ():
                lost += 1
                self.assertIsNone(known)
                self.refused(Refused, 0, half_filled, half)
            else:
                self.assertIs(is_half_completion(half, self.soon(half_filled, half)), True)
        self.assertGreater(lost, 3)


class Unfolded(Case):
    def hidden_words(self, half, network, u, v):
        """The words of all ways from u to v with hidden places alone between."""
        def beside(place):
            return [w for w in range(network.places) if w != place and network.between(place, w) is not None]

        words = []
        if network.between(u, v) is not None:
            words.append((network.between(u, v),))
        for first in beside(u):
            way = [u, first]
            while way[-1] >= half.places:
                self.assertEqual(len(beside(way[-1])), 2)
                way.append([w for w in beside(way[-1]) if w != way[-2]][0])
            if way[-1] == v and len(way) > 2:
                words.append(tuple(network.between(a, b) for a, b in zip(way, way[1:])))
        return words

    def check(self, half):
        network = unfolded(half=half)
        self.assertIs(type(network), Network)
        self.assertEqual(network.kind, half.kind)
        self.assertGreaterEqual(network.places, half.places)
        self.assertLessEqual(network.places, 40)
        every = tuple(range(half.kind.relations))
        steps = 0
        for u, v in combinations(range(half.places), 2):
            words = self.hidden_words(half, network, u, v)
            steps += sum(len(word) for word in words)
            common = set(every).intersection(*[slow_ends(half.kind, word) for word in words])
            self.assertEqual(tuple(sorted(common)), told_lot(half, u, v))
            if told_lot(half, u, v) == every and half.kind.relations > 1:
                self.assertEqual(words, [])
        self.assertEqual(steps, len(network.told))
        return network

    def test_unfolded(self):
        hidden = 0
        for half in some_halves(390):
            network = self.check(half)
            hidden += network.places - half.places
            for rows in slow_completions(Network(half.kind, half.places, []))[::17]:
                told = {(u, v): x for u, v, x in network.told if v < half.places}
                further = [(u, v, rows[u][v]) for u, v in combinations(range(half.places), 2) if (u, v) not in told]
                agrees = all(rows[u][v] == x for (u, v), x in told.items())
                word = verdict(Network(half.kind, network.places, network.told + tuple(further)))[0]
                self.assertIs(agrees and word == "full", is_half_completion(half, rows))
        self.assertGreater(hidden, 100)

    def test_what_is_possible_stays(self):
        for half in list(some_halves(391))[::3]:
            network = unfolded(half)
            rows = possible_rows(network)
            self.assertEqual(tuple(row[:half.places] for row in rows[:half.places]), half_possible(half))

    def test_known_ones(self):
        kind = distance_kind((1, 2, 3, 4, 5))
        network = self.check(HalfTold(kind, 2, [(0, 1, (1, 2))]))
        self.assertEqual((network.places, len(network.told)), (4, 4))
        network = self.check(HalfTold(kind, 3, [(0, 1, (2,)), (1, 2, (0, 1, 2, 3, 4))]))
        self.assertEqual((network.places, network.told), (3, ((0, 1, 2),)))
        network = self.check(HalfTold(kind, 2, [(0, 1, (0, 1))]))
        self.assertEqual((network.places, network.told), (3, ((0, 2, 0), (1, 2, 0))))
        self.assertEqual(self.check(HalfTold(order_kind(), 1, [])).places, 1)
        network = self.check(HalfTold(order_kind(), 2, [(1, 0, (0,))]))
        self.assertEqual((network.places, network.told), (2, ((0, 1, 1),)))
        network = self.check(HalfTold(free_kind(1), 2, [(1, 0, (0,))]))
        self.assertEqual(network.places, 2)

    def test_few_hidden_places(self):
        # Two words that come early leave (0, 3) in common, but a single later one has these ends, too.
        kind = barred_kind((0, 2, 1, 3), [(0, 2, 2), (1, 1, 1)])
        self.assertEqual(self.check(HalfTold(kind, 2, [(0, 1, (0, 3))])).places, 3)
        for kind in deciding_kinds() + [kind, distance_kind((1, 2, 3, 4, 5))]:
            lots = way_lots(kind)
            least = {tuple(range(kind.relations)): 0}
            for many in (1, 2, 3):
                for some in combinations(lots, many):
                    common = tuple(sorted(set.intersection(*[set(lot) for lot in some])))
                    hidden = sum(len(word_of(kind, lot)) - 1 for lot in some)
                    least[common] = min(hidden, least.get(common, 99))
            for lot in soft_lots(kind):
                if lot in least:
                    self.assertLessEqual(unfolded(HalfTold(kind, 2, [(0, 1, lot)])).places, 2 + least[lot])

    def test_longer_words(self):
        for kind in deciding_kinds():
            for lot in soft_lots(kind):
                for told in ((0, 1, lot), (1, 0, lot)):
                    network = self.check(HalfTold(kind, 2, [told]))
                    self.assertEqual(possible_rows(network)[told[0]][told[1]], lot)

    def test_at_most_forty_places(self):
        kind = distance_kind((1, 2, 3))
        pairs = list(combinations(range(10), 2))
        for many in (28, 30):
            half = HalfTold(kind, 10, [(u, v, (0, 1)) for u, v in pairs[:many]])
            self.assertEqual(self.check(half).places, 10 + many)
        for many in (31, 45):
            half = HalfTold(kind, 10, [(u, v, (0, 1)) for u, v in pairs[:many]])
            self.refused(Refused, 10 + many, unfolded, half)
        half = HalfTold(kind, 40, [(u, u + 1, (2,)) for u in range(39)])
        self.assertEqual(self.check(half).places, 40)
        half = HalfTold(kind, 40, half.told + ((0, 39, (0, 1)),))
        self.refused(Refused, 41, unfolded, half)
        half = HalfTold(kind, 40, [(u, v, (0, 1)) for u, v in combinations(range(40), 2)])
        self.refused(Refused, 820, unfolded, half)
        two = distance_kind((1, 2, 3, 4, 5))
        self.refused(Refused, 42, unfolded, HalfTold(two, 40, [(0, 39, (1, 2))]))
        self.refused(Refused, 41, unfolded, HalfTold(two, 39, [(0, 38, (1, 2))]))
        self.assertEqual(self.check(HalfTold(two, 38, [(0, 37, (1, 2))])).places, 40)


class WaysOfLots(Case):
    def check(self, half, u, v, x, told):
        self.assertIs(type(told), tuple)
        self.assertEqual((told[0], told[-1], len(set(told))), (u, v, len(told)))
        self.assertNotIn(x, slow_left(half, told))
        self.assertIs(is_way_of_lots(half, u, v, x, told), True)

    def test_way_of_lots(self):
        lengths = set()
        for half in some_halves(392):
            rows = slow_half_possible(half)
            fine = half.places == 1 or rows[0][1] != ()
            for u, v in permutations(range(half.places), 2):
                for x in range(half.kind.relations):
                    if not fine:
                        self.refused(Refused, 1, way_of_lots, half, u, v, x)
                    elif x in rows[u][v]:
                        self.refused(Refused, 0, way_of_lots, half, u, v, x)
                    else:
                        told = way_of_lots(half=half, u=u, v=v, x=x)
                        self.check(half, u, v, x, told)
                        lengths.add(len(told))
        self.assertLessEqual({2, 3, 4}, lengths)

    def test_is_way_of_lots(self):
        chance = random.Random(393)
        found = 0
        for half in list(some_halves(393))[::2]:
            if half.places == 1:
                continue
            for _ in range(2):
                u, v = chance.sample(range(half.places), 2)
                x = chance.randrange(half.kind.relations)
                for many in range(half.places + 1):
                    for value in permutations(range(half.places), many):
                        fits = many > 1 and (value[0], value[-1]) == (u, v) and x not in slow_left(half, value)
                        found += fits
                        self.assertIs(is_way_of_lots(half=half, u=u, v=v, x=x, value=value), fits)
        self.assertGreater(found, 50)

    def test_untold_neighbours(self):
        half = HalfTold(order_kind(), 4, [(0, 1, (0,)), (1, 2, (0,))])
        self.assertIs(is_way_of_lots(half, 0, 2, 1, (0, 1, 2)), True)
        self.assertIs(is_way_of_lots(half, 0, 2, 1, (0, 2)), False)
        self.assertIs(is_way_of_lots(half, 0, 2, 1, (0, 3, 2)), False)
        self.assertIs(is_way_of_lots(half, 0, 3, 1, (0, 1, 2, 3)), False)
        self.assertEqual(way_of_lots(half, 0, 2, 1), (0, 1, 2))
        self.assertEqual(way_of_lots(half, 2, 0, 0), (2, 1, 0))
        self.refused(Refused, 0, way_of_lots, half, 0, 3, 1)

    def test_without_a_completion(self):
        half = HalfTold(order_kind(), 4, [(0, 1, (0,)), (1, 2, (0,)), (2, 0, (0,))])
        self.refused(Refused, 1, way_of_lots, half, 0, 3, 1)
        self.refused(Refused, 1, way_of_lots, half, 0, 1, 0)
        self.assertIs(is_way_of_lots(half, 0, 2, 1, (0, 1, 2)), True)
        self.assertIs(is_way_of_lots(half, 0, 3, 1, (0, 1, 2, 3)), False)

    def test_long_ways(self):
        kind = level_kind(3)
        half = HalfTold(kind, 40, [(u + 1, u, (0, 1)) for u in range(39)])
        way = tuple(range(40))
        self.assertEqual(self.soon(way_of_lots, half, 0, 39, 2), way)
        self.assertIs(is_way_of_lots(half, 0, 39, 2, way), True)
        self.assertIs(is_way_of_lots(half, 39, 0, 2, way[::-1]), True)
        self.assertIs(is_way_of_lots(half, 0, 39, 1, way), False)

    def test_forty_places(self):
        chance = random.Random(394)
        found = 0
        for half, known in wide_halves(40, 39):
            rows = half_possible(half)
            for _ in range(4):
                u, v = chance.sample(range(40), 2)
                x = chance.randrange(half.kind.relations)
                if rows[0][1] == ():
                    self.refused(Refused, 1, way_of_lots, half, u, v, x)
                elif x in rows[u][v]:
                    self.refused(Refused, 0, way_of_lots, half, u, v, x)
                else:
                    self.check(half, u, v, x, self.soon(way_of_lots, half, u, v, x))
                    found += 1
        self.assertGreater(found, 10)

    def test_is_way_of_lots_of_any_value(self):
        half = HalfTold(order_kind(), 4, [(0, 1, (0,)), (1, 2, (0,)), (2, 3, (0,))])
        self.assertIs(is_way_of_lots(half, 0, 3, 1, (0, 1, 2, 3)), True)
        for value in ODD_VALUES + [
            [0, 1, 2, 3], (False, True, 2, 3), (0, True, 2, 3), (0, 1, 2.0, 3), (0, 1, 3), (0, 1, 2), (1, 2, 3),
            (0, 1, 0, 1, 2, 3), (0, 1, 2, 3, 3), (0, 1, 2, 4), (0, 3), (3, 2, 1, 0), ((0, 1, 2, 3),), (0, None, 3),
            (0, EqualToAll(), 3), (0, [1], 2, 3), (0, 1, 2, 3, 0), (0, -1, 3), EqualToAll(), (3,), (0,),
        ]:
            self.assertIs(is_way_of_lots(half, 0, 3, 1, value), False)


if __name__ == "__main__":
    unittest.main()
