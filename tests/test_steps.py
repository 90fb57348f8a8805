"""[35], [36]: rows of lots, steps and rounds."""

import random
import unittest
from itertools import permutations

from ringsdecide.built import distance_kind, free_kind, level_kind, order_kind, sector_kind, sum_kind
from ringsdecide.kinds import Kind
from ringsdecide.networks import Network
from ringsdecide.steps import are_lots, lots_of, rounds, stepped
from ringsdecide.ways import joined
from tests.helpers import (
    ODD_VALUES, Case, EqualToAll, all_but_threes, deciding_kinds, level_rows, slow_possible_rows, small_kinds,
    some_kinds, some_network, wide_networks,
)


def turned_lot(kind, lot):
    return tuple(sorted(kind.turned[x] for x in lot))


def some_lots(chance, kind, places, share):
    """Rows of lots by chance, each relation in with about this share."""
    rows = [[None] * places for _ in range(places)]
    for v in range(places):
        for u in range(v):
            lot = tuple(x for x in range(kind.relations) if chance.random() < share)
            rows[u][v], rows[v][u] = lot, turned_lot(kind, lot)
    return tuple(tuple(row) for row in rows)


def slow_step(kind, rows, u, v, w):
    """One step, on a list of lists; whether it changed anything."""
    allowed = set(kind.triples)
    lot = tuple(
        z for z in rows[u][v] if any((x, y, z) in allowed for x in rows[u][w] for y in rows[w][v])
    )
    if lot == rows[u][v]:
        return False
    rows[u][v], rows[v][u] = lot, turned_lot(kind, lot)
    return True


def slow_stepped(chance, kind, lots):
    """Steps in an order by chance, till none changes anything."""
    rows = [list(row) for row in lots]
    order = list(permutations(range(len(rows)), 3))
    changed = True
    while changed:
        chance.shuffle(order)
        changed = [True for u, v, w in order if slow_step(kind, rows, u, v, w)] != []
    return tuple(tuple(row) for row in rows)


def slow_round(kind, lots):
    """One round: each lot cut by all third places, by the lots before it."""
    places = range(len(lots))
    rows = []
    for u in places:
        row = []
        for v in places:
            if u == v:
                row.append(None)
                continue
            left = set(lots[u][v])
            for w in places:
                if w not in (u, v):
                    left &= set(joined(kind, lots[u][w], lots[w][v]))
            row.append(tuple(sorted(left)))
        rows.append(tuple(row))
    return tuple(rows)


def slow_rounds(kind, lots):
    """How many rounds change something."""
    count = 0
    further = slow_round(kind, lots)
    while further != lots:
        count += 1
        lots, further = further, slow_round(kind, further)
    return count


def most_rounds(places):
    """The least r with 2 ** r not less than the number of places less 1."""
    r = 0
    while 2 ** r < places - 1:
        r += 1
    return r


class Steps(Case):
    def test_are_lots(self):
        kind = order_kind()
        for value in [((None,),), ((None, (0,)), ((1,), None)), ((None, ()), ((), None)),
                      ((None, (0, 1)), ((0, 1), None)),
                      ((None, (0,), (0, 1)), ((1,), None, ()), ((0, 1), (), None))]:
            self.assertIs(are_lots(kind=kind, value=value), True)
        for value in ODD_VALUES + [
            (), ((None, (0,)), ((0,), None)), ((None, (0, 1)), ((1, 0), None)), ((None, (1, 0)), ((0, 1), None)),
            ((None, [0]), ((1,), None)), ((None, (0,)), ([1], None)), ([None, (0,)], ((1,), None)),
            [(None, (0,)), ((1,), None)], ((None, (0, 0)), ((1, 1), None)), ((None, (2,)), ((2,), None)),
            ((None, (False,)), ((True,), None)), ((None, (0,)), ((True,), None)), ((None, 0), (1, None)),
            (((), (0,)), ((1,), None)), ((None, (0,)), ((1,), ())), ((None, (0,)),), ((None,), (None,)),
            ((None, None), (None, None)), ((None, (0,)), ((1,),)), ((None, (0,), ()), ((1,), None, ())),
            (((None,),),), ((None, EqualToAll()), (EqualToAll(), None)), ((None, (EqualToAll(),)), ((1,), None)),
            (EqualToAll(),), ((EqualToAll(),),), ((0,),), ((False,),), ((None, (-1,)), ((1,), None)),
            ((None, (0.0,)), ((1,), None)), ((None, ()), ((0,), None)), ((None, (0,)), ((), None)),
        ]:
            if not (type(value) is tuple and value == ((None,),)):
                self.assertIs(are_lots(kind, value), False, value)

    def test_are_lots_by_chance(self):
        chance = random.Random(35)
        for kind in [sum_kind(5), order_kind(), sector_kind(4), free_kind(6)]:
            for places in (1, 2, 3, 6, 40):
                lots = some_lots(chance, kind, places, 0.5)
                self.assertIs(are_lots(kind, lots), True)
                if places > 1:
                    row = list(lots[1])
                    row[0] = row[0][1:] if row[0] else (0,)
                    self.assertIs(are_lots(kind, lots[:1] + (tuple(row),) + lots[2:]), False)
                    self.assertIs(are_lots(kind, lots[:-1]), False)

    def test_lots_of(self):
        kind = order_kind()
        both = (0, 1)
        self.assertEqual(lots_of(network=Network(kind, 3, [(2, 0, 0)])),
                         ((None, both, (1,)), (both, None, both), ((0,), both, None)))
        self.assertEqual(lots_of(Network(kind, 1, [])), ((None,),))
        self.assertEqual(lots_of(Network(sum_kind(3), 2, [(0, 1, 1)])), ((None, (1,)), ((2,), None)))
        chance = random.Random(350)
        for kind in small_kinds()[::5]:
            network = some_network(chance, kind, 6, 0.5)
            lots = lots_of(network)
            self.all_tuples(lots)
            self.assertIs(are_lots(kind, lots), True)
            for u in range(6):
                for v in range(6):
                    x = None if u == v else network.between(u, v)
                    every = None if u == v else tuple(range(kind.relations))
                    self.assertEqual(lots[u][v], every if x is None else (x,))

    def test_the_order_of_steps_does_not_matter(self):
        chance = random.Random(351)
        kinds = small_kinds() + list(some_kinds(4, 20, 35)) + [sector_kind(3), sum_kind(6), distance_kind((1, 2, 4))]
        changed = lost = 0
        for kind in kinds:
            for places in (1, 2, 3, 4, 5):
                for share in (0.6, 0.9):
                    lots = some_lots(chance, kind, places, share)
                    told = stepped(kind=kind, lots=lots)
                    self.all_tuples(told)
                    self.assertIs(are_lots(kind, told), True)
                    for _ in range(2):
                        self.assertEqual(slow_stepped(chance, kind, lots), told)
                    changed += told != lots
                    lost += places > 2 and told[0][1] == ()
        self.assertTrue(changed > 100 and 20 < lost < changed - 20, (changed, lost))

    def test_empty_lots(self):
        kind = free_kind(2)
        empty = ((None, ()), ((), None))
        self.assertEqual(stepped(kind, empty), empty)
        self.assertEqual(rounds(kind, empty), 0)
        both = (0, 1)
        lots = ((None, (), both, both), ((), None, both, both), (both, both, None, both), (both, both, both, None))
        none = tuple(tuple(None if u == v else () for v in range(4)) for u in range(4))
        self.assertEqual(stepped(kind, lots), none)
        self.assertEqual(rounds(kind, lots), 2)
        self.assertEqual(rounds(kind, none), 0)
        self.assertEqual(stepped(kind, none), none)

    def test_rounds(self):
        chance = random.Random(36)
        seen = set()
        kinds = small_kinds()[::2] + list(some_kinds(4, 10, 36)) + [
            sector_kind(3), sum_kind(6), distance_kind((1, 2, 4)), distance_kind((1, 2, 3, 4, 5)), order_kind(),
        ]
        for kind in kinds:
            for places in (1, 2, 3, 5, 6):
                for share in (0.7, 0.95):
                    lots = some_lots(chance, kind, places, share)
                    count = rounds(kind=kind, lots=lots)
                    seen.add(count)
                    self.assertIs(type(count), int)
                    self.assertEqual(count, slow_rounds(kind, lots))
                    rows = lots
                    for _ in range(count):
                        rows = slow_round(kind, rows)
                    self.assertEqual(rows, stepped(kind, lots))
                    self.assertEqual(rounds(kind, rows), 0)
                network = some_network(chance, kind, places, 0.4)
                self.assertEqual(rounds(kind, lots_of(network)), slow_rounds(kind, lots_of(network)))
        self.assertLessEqual({0, 1, 2, 3}, seen)

    def test_steps_end_with_what_is_possible(self):
        chance = random.Random(361)
        ended = {True: 0, False: 0}
        for kind in deciding_kinds():
            for places, share in ((1, 1), (2, 0.5), (3, 0.7), (4, 0.6), (5, 0.5), (5, 0.7)):
                network = some_network(chance, kind, places, share)
                told = stepped(kind, lots_of(network))
                self.assertEqual(told, slow_possible_rows(network))
                lost = places > 1 and told[0][1] == ()
                ended[lost] += 1
                if lost:
                    self.assertEqual({lot for row in told for lot in row}, {None, ()})
                self.assertLessEqual(rounds(kind, lots_of(network)), most_rounds(places) + 2 * lost)
        self.assertGreater(min(ended.values()), 15)

    def test_how_many_rounds(self):
        # A way of n places: what its ends can have is known after as many rounds as doubling needs.
        kind = sum_kind(5)
        for places in (3, 4, 5, 6, 8, 9, 10, 17, 18, 33, 34, 40):
            told = [(at, at + 1, 1) for at in range(places - 1)]
            lots = lots_of(Network(kind, places, told))
            self.assertEqual(rounds(kind, lots), most_rounds(places))
            self.assertEqual(stepped(kind, lots)[0][places - 1], ((places - 1) % 5,))
            wrong = lots_of(Network(kind, places, told + [(0, places - 1, places % 5)]))
            self.assertLessEqual(rounds(kind, wrong), most_rounds(places) + 2)
            self.assertEqual(stepped(kind, wrong)[0][places - 1], ())

    def test_forty_places(self):
        lost = 0
        for network, known in wide_networks(40, 36):
            lots = lots_of(network)
            told = self.soon(stepped, network.kind, lots)
            self.assertIs(are_lots(network.kind, told), True)
            wrong = told[0][1] == ()
            lost += wrong
            self.assertTrue(known is None or not wrong)
            self.assertLessEqual(self.soon(rounds, network.kind, lots), 6 + 2 * wrong)
            self.assertEqual(rounds(network.kind, told), 0)
        self.assertGreater(lost, 5)

    def test_forty_places_of_kinds_that_do_not_decide(self):
        chance = random.Random(40)
        for kind in [all_but_threes(3), sector_kind(6), distance_kind((1, 2, 4, 8, 16, 32)),
                     distance_kind((1, 2, 3, 4, 5, 6)), sector_kind(3)]:
            for lots in [some_lots(chance, kind, 40, 0.9), lots_of(some_network(chance, kind, 40, 0.1)),
                         lots_of(Network(kind, 40, [(at, at + 1, 0) for at in range(39)]))]:
                told = self.soon(stepped, kind, lots)
                self.assertIs(are_lots(kind, told), True)
                self.soon(rounds, kind, lots)
                self.assertEqual(rounds(kind, told), 0)

    def test_full_networks_stay(self):
        kind = level_kind(4)
        rows = level_rows(16, 4)
        lots = tuple(tuple(None if x is None else (x,) for x in row) for row in rows)
        self.assertEqual(stepped(kind, lots), lots)
        self.assertEqual(rounds(kind, lots), 0)

    def test_a_kind_without_triples(self):
        kind = Kind((0, 1), [])
        lots = lots_of(Network(kind, 3, []))
        none = ((None, (), ()), ((), None, ()), ((), (), None))
        self.assertEqual(stepped(kind, lots), none)
        self.assertEqual(rounds(kind, lots), 1)


if __name__ == "__main__":
    unittest.main()
