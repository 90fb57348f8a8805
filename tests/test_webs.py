"""[49], [50], [51], [52]: webs, safe and spoiled ones, plans, further pairs."""

import random
import unittest
from itertools import combinations, permutations, product

from ringsdecide.against import is_against
from ringsdecide.built import (
    barred_kind, distance_kind, free_kind, level_kind, order_kind, sector_kind, sum_kind,
)
from ringsdecide.errors import InvalidNetwork, NotDeciding, Refused
from ringsdecide.gluing import gluing_fault
from ringsdecide.kinds import Kind
from ringsdecide.networks import Network, is_completion
from ringsdecide.reaching import far_relations, is_risky
from ringsdecide.rings import bare_rings
from ringsdecide.webs import (
    Web, all_further, further_pairs, is_plan, is_safe, is_spoiled, longest_ring, plan_completion, ring_plan, spoiled,
    web_of, web_rings,
)
from tests.helpers import (
    APART_OR_UNMEETING, ODD_VALUES, Case, EqualToAll, all_but_threes, all_webs, full_web, ring_web,
    slow_first_completion, slow_web_rings, some_network, some_web,
)

SMALL_KINDS = [order_kind(), level_kind(2), sum_kind(2), free_kind(2), distance_kind((1, 2, 3)), sum_kind(3),
               level_kind(3), distance_kind((1, 3))]
KINDS = SMALL_KINDS + [distance_kind((1, 2, 3, 4)), distance_kind((1, 2, 3, 4, 5)), distance_kind((2, 3, 5)),
                       level_kind(5), sum_kind(5), free_kind(1)]
# A far relation of this kind, read in the other direction, is not far.
ONE_WAY = barred_kind((1, 0, 2, 3), [(0, 0, 1), (0, 0, 2), (0, 0, 3), (0, 3, 0), (0, 3, 2)])


def some_webs(seed, most=6, count=40):
    """Webs of few places."""
    chance = random.Random(seed)
    for _ in range(count):
        places = chance.randrange(1, most + 1)
        yield some_web(chance, places, chance.randrange(places * (places - 1) // 2 + 1))
    for places in range(3, most + 1):
        yield from [ring_web(places), full_web(places)]


def slow_bare(web):
    """All bare rings, by counting the pairs of their places."""
    return tuple(sorted(
        ring for ring in slow_web_rings(web)
        if sum(pair in web.pairs for pair in combinations(sorted(ring), 2)) == len(ring)
    ))


def slow_safe(kind, web):
    """Whether no bare ring of four or more places has a risky length."""
    return not any(len(ring) > 3 and is_risky(kind, len(ring)) for ring in slow_bare(web))


def networks_of(kind, web):
    """All networks of the kind and the web."""
    for word in product(range(kind.relations), repeat=len(web.pairs)):
        yield Network(kind, web.places, [pair + (x,) for pair, x in zip(web.pairs, word)])


def slow_sound(network):
    """Whether all told triangles are among the triples."""
    for u, v, w in permutations(range(network.places), 3):
        triple = (network.between(u, v), network.between(v, w), network.between(u, w))
        if None not in triple and triple not in network.kind.triples:
            return False
    return True


def goes_wrong(kind, web):
    """Whether some sound network of the kind and the web has no completion."""
    return any(slow_sound(network) and slow_first_completion(network) is None for network in networks_of(kind, web))


def slow_is_plan(web, order):
    """Whether an order of all places is a plan."""
    for at, place in enumerate(order):
        ahead = [u for u in order[:at] if tuple(sorted((u, place))) in web.pairs]
        if any(tuple(sorted(pair)) not in web.pairs for pair in combinations(ahead, 2)):
            return False
    return True


class Webs(Case):
    def test_attributes(self):
        web = Web(places=4, pairs=[(3, 1), (0, 1), (2, 0)])
        self.assertEqual((web.places, web.pairs), (4, ((0, 1), (0, 2), (1, 3))))
        self.all_tuples(web.pairs)
        for pairs in [(), []]:
            self.assertEqual((Web(1, pairs).places, Web(1, pairs).pairs), (1, ()))
        pairs = list(combinations(range(25), 2))
        self.assertEqual(Web(100, [pair[::-1] for pair in pairs]).pairs, tuple(pairs))

    def test_equal(self):
        webs = list(all_webs(3)) + [Web(4, []), Web(4, [(0, 1)])]
        for at, one in enumerate(webs):
            for other_at, other in enumerate(webs):
                self.assertIs(one == other, at == other_at)
                self.assertIs(one != other, at != other_at)
        self.assertEqual(Web(3, [(0, 1), (2, 1)]), Web(3, ((1, 2), (1, 0))))
        for value in ODD_VALUES + [(3, ((0, 1),)), EqualToAll()]:
            self.assertIs(Web(3, [(0, 1)]) == value, False)

    def test_arguments_stay(self):
        pairs = [(1, 0)]
        web = Web(3, pairs)
        pairs.append((1, 2))
        self.assertEqual(web.pairs, ((0, 1),))
        self.assertEqual(pairs, [(1, 0), (1, 2)])

    def test_places_refused(self):
        for value in ODD_VALUES + [0, -1, True, 2.0, "2", (2,), [2], EqualToAll()]:
            if type(value) is int and value > 0:
                continue
            self.refused(InvalidNetwork, 0, Web, value, [])
            self.refused(InvalidNetwork, 0, Web, value, None)

    def test_pairs_refused(self):
        for value in ODD_VALUES:
            if type(value) not in (list, tuple):
                self.refused(InvalidNetwork, 1, Web, 3, value)
            self.refused(InvalidNetwork, 2, Web, 3, [(0, 1), value, None])
        for entry in [[1, 2], (1,), (1, 2, 0), (1, 1), (1, 3), (3, 1), (-1, 2), (True, 2), (0, True), (2, False),
                      (1.0, 2), (1, None), (1, [2]), ((1, 2),), ([1], 2), (1, EqualToAll()), (EqualToAll(), 1),
                      EqualToAll(), {1, 2}, "12", (0, 1), (1, 0)]:
            self.refused(InvalidNetwork, 2, Web, 3, [(0, 1), entry, (0, 1)])
            self.refused(InvalidNetwork, 2, Web, 3, ((1, 0), entry))
        self.refused(InvalidNetwork, 1, Web, 1, [(0, 0)])
        self.refused(InvalidNetwork, 4, Web, 3, [(0, 1), (0, 2), (2, 1), (2, 0)])
        for order in permutations([(0, 1), (1, 2), (2, 0)]):
            self.assertEqual(Web(3, order), Web(3, [(0, 1), (0, 2), (1, 2)]))

    def test_web_of(self):
        chance = random.Random(49)
        for kind in KINDS + [sector_kind(3), all_but_threes(3)]:
            network = some_network(chance, kind, 6, 0.5)
            told = web_of(network=network)
            self.assertEqual(told, Web(6, [triple[:2] for triple in network.told]))
            self.assertEqual(bare_rings(network), web_rings(told))
        self.assertEqual(web_of(Network(order_kind(), 1, [])), Web(1, []))

    def test_rings(self):
        lengths = set()
        for web in some_webs(490, 6, 60):
            told = web_rings(web=web)
            self.all_tuples(told)
            self.assertEqual(told, slow_bare(web))
            longest = max([3] + [len(ring) for ring in told if len(ring) > 3])
            self.assertEqual(longest_ring(web=web), longest)
            lengths.add(longest)
        self.assertEqual(lengths, {3, 4, 5, 6})
        self.assertEqual(longest_ring(ring_web(12)), 12)
        self.assertEqual(longest_ring(Web(1, [])), 3)
        self.assertEqual(longest_ring(Web(12, [])), 3)


class Safe(Case):
    def test_is_safe(self):
        found = {True: 0, False: 0}
        for kind in KINDS:
            for web in some_webs(491, 6, 20):
                safe = slow_safe(kind, web)
                self.assertIs(is_safe(kind=kind, web=web), safe)
                found[safe] += 1
        self.assertTrue(min(found.values()) > 30, found)

    def test_a_safe_web_never_goes_wrong(self):
        tried = 0
        for kind in SMALL_KINDS:
            for web in all_webs(4):
                if kind.relations ** len(web.pairs) > 300:
                    continue
                wrong = goes_wrong(kind, web)
                tried += wrong
                if is_safe(kind, web):
                    self.assertIs(wrong, False)
                elif far_relations(kind):
                    self.assertIs(wrong, True)
        self.assertGreater(tried, 10)

    def test_one_pair_more(self):
        kind = distance_kind((1, 2, 3, 4))
        self.assertIs(is_safe(kind, ring_web(5)), True)
        self.assertIs(is_safe(kind, Web(5, ring_web(5).pairs + ((0, 2),))), False)

    def test_examples(self):
        ring = Web(5, [(0, 1), (1, 2), (2, 3), (3, 4), (0, 4)])
        self.assertEqual(
            (is_safe(distance_kind((1, 2, 3, 4)), ring), is_safe(distance_kind((1, 2, 3, 4, 5)), ring),
             ring_plan(ring)),
            (True, False, None),
        )
        self.assertEqual(
            (further_pairs(level_kind(2), ring), ring_plan(Web(4, [(0, 1), (1, 2), (2, 3)]))),
            (((0, 2), (0, 3)), (0, 1, 2, 3)),
        )

    def test_spoiled(self):
        found = {"safe": 0, "far": 0, "none": 0}
        for kind in KINDS:
            far = far_relations(kind)
            for web in some_webs(50, 6, 25):
                if slow_safe(kind, web):
                    found["safe"] += 1
                    self.assertIs(spoiled(kind=kind, web=web), None)
                elif not far:
                    found["none"] += 1
                    self.refused(Refused, 0, spoiled, kind, web)
                else:
                    found["far"] += 1
                    told = spoiled(kind, web)
                    self.assertIs(type(told), Network)
                    self.assertEqual((told.kind, web_of(told)), (kind, web))
                    self.assertIs(slow_sound(told), True)
                    self.assertIs(slow_first_completion(told), None)
                    self.assertIs(is_spoiled(kind, web, told), True)
        self.assertTrue(min(found.values()) > 10, found)

    def test_a_far_relation_that_has_a_direction(self):
        self.assertEqual(far_relations(ONE_WAY), (0, 2, 3))
        chance = random.Random(501)
        many = 0
        for order in permutations(range(6)):
            if chance.random() < 0.8:
                continue
            # A ring of four places, and two more that are told with all of it and with one another.
            pairs = [(0, 1), (1, 2), (2, 3), (0, 3), (4, 5)] + [(u, v) for u in range(4) for v in (4, 5)]
            web = Web(6, [(order[u], order[v]) for u, v in pairs])
            told = spoiled(ONE_WAY, web)
            self.assertEqual(web_of(told), web)
            self.assertIs(slow_sound(told), True)
            self.assertIs(is_spoiled(ONE_WAY, web, told), True)
            self.assertIs(slow_first_completion(told), None)
            many += 1
        self.assertGreater(many, 50)

    def test_is_spoiled(self):
        many = 0
        for kind in SMALL_KINDS:
            for web in [ring_web(3), ring_web(4), Web(4, [(0, 1), (1, 2), (0, 2), (2, 3), (0, 3)]), Web(2, [])]:
                for network in networks_of(kind, web):
                    right = slow_sound(network) and slow_first_completion(network) is None
                    self.assertIs(is_spoiled(kind=kind, web=web, value=network), right)
                    many += right
        self.assertGreater(many, 50)
        kind, web = level_kind(2), ring_web(4)
        network = spoiled(kind, web)
        self.assertIs(is_spoiled(kind, web, network), True)
        self.assertIs(is_spoiled(kind, Web(5, web.pairs), network), False)
        self.assertIs(is_spoiled(kind, Web(5, web.pairs), Network(kind, 5, network.told)), True)
        self.assertIs(is_spoiled(level_kind(3), web, network), False)
        self.assertIs(is_spoiled(kind, Web(4, web.pairs[1:]), network), False)
        lost = Network(order_kind(), 3, [(0, 1, 0), (1, 2, 0), (2, 0, 0)])
        self.assertIs(is_spoiled(order_kind(), ring_web(3), lost), False)
        for value in ODD_VALUES + [EqualToAll(), web, network.told, (network,), [network], kind]:
            self.assertIs(is_spoiled(kind, web, value), False)

    def test_a_kind_without_a_far_relation(self):
        # A ring of four places, and a fifth one told with all of them.
        web = Web(5, ring_web(4).pairs + ((0, 4), (1, 4), (2, 4), (3, 4)))
        kind = sum_kind(2)
        self.assertIs(is_safe(kind, web), False)
        self.assertIs(goes_wrong(kind, web), False)
        self.refused(Refused, 0, spoiled, kind, web)

    def test_not_deciding(self):
        for kind, at in APART_OR_UNMEETING:
            for web in (ring_web(4), full_web(3), Web(1, [])):
                self.refused(NotDeciding, at, is_safe, kind, web)
                self.refused(NotDeciding, at, spoiled, kind, web)
                self.refused(NotDeciding, at, further_pairs, kind, web)
                self.refused(NotDeciding, at, all_further, kind, web)
                for value in [None, EqualToAll(), Network(kind, 1, [])]:
                    self.refused(NotDeciding, at, is_spoiled, kind, web, value)

    def test_twelve_places(self):
        chance = random.Random(500)
        for many in (0, 12, 16, 20, 26, 33, 45, 60, 66):
            web = some_web(chance, 12, many)
            rings = self.soon(web_rings, web)
            for kind in (level_kind(5), distance_kind((1, 2, 3, 4, 5)), order_kind(), sum_kind(5)):
                safe = self.soon(is_safe, kind, web)
                self.assertIs(safe, not any(len(ring) > 3 and is_risky(kind, len(ring)) for ring in rings))
                if safe:
                    self.assertIs(self.soon(spoiled, kind, web), None)
                elif kind == sum_kind(5):
                    self.refused(Refused, 0, spoiled, kind, web)
                else:
                    told = self.soon(spoiled, kind, web)
                    self.assertIs(self.soon(is_spoiled, kind, web, told), True)
        for kind in (level_kind(5), order_kind()):
            self.assertIs(is_spoiled(kind, ring_web(12), spoiled(kind, ring_web(12))), True)


class Plans(Case):
    def test_ring_plan(self):
        found = {True: 0, False: 0}
        for web in list(all_webs(4)) + list(some_webs(51, 6, 40)):
            first = next((order for order in permutations(range(web.places)) if slow_is_plan(web, order)), None)
            told = ring_plan(web=web)
            self.assertEqual(told, first)
            found[told is not None] += 1
            self.assertIs(told is None, any(len(ring) > 3 for ring in slow_bare(web)))
            self.assertIs(told is not None, is_safe(level_kind(2), web))
        self.assertTrue(min(found.values()) > 5, found)

    def test_is_plan(self):
        for web in list(all_webs(3)) + list(some_webs(510, 5, 30)):
            for order in permutations(range(web.places)):
                self.assertIs(is_plan(web=web, value=order), slow_is_plan(web, order))
        web = Web(4, [(0, 1), (1, 2), (2, 3)])
        self.assertIs(is_plan(web, (1, 0, 2, 3)), True)
        for value in ODD_VALUES + [[1, 0, 2, 3], (1, 0, 2), (1, 0, 2, 3, 3), (1, 0, 2, 2), (True, False, 2, 3),
                                   (1, 0, 2.0, 3), (1, 0, 2, 4), (1, 0, 2, -1), (1, 0, 2, None), (1, 0, [2], 3),
                                   (1, 0, 2, EqualToAll()), EqualToAll(), ((1, 0, 2, 3),), (0, 2, 1, 3)]:
            self.assertIs(is_plan(web, value), False)
        self.assertIs(is_plan(Web(1, []), (0,)), True)
        for value in [[0], (False,), (), (0, 0), (1,), (-1,), (None,), 0, ((0,),), EqualToAll(), (EqualToAll(),)]:
            self.assertIs(is_plan(Web(1, []), value), False)

    def test_webs_with_a_plan_never_go_wrong(self):
        for web in all_webs(4):
            self.assertIs(ring_plan(web) is not None, not goes_wrong(level_kind(2), web))

    def test_plan_completion(self):
        found = {"full": 0, 0: 0, 1: 0}
        chance = random.Random(511)
        for kind in KINDS + [sector_kind(2), sector_kind(3), sector_kind(4), free_kind(3)]:
            for _ in range(25):
                network = some_network(chance, kind, chance.randrange(1, 6), chance.choice((0.3, 0.5, 0.7)))
                if ring_plan(web_of(network)) is None:
                    found[0] += 1
                    self.refused(Refused, 0, plan_completion, network)
                elif not slow_sound(network):
                    found[1] += 1
                    self.refused(Refused, 1, plan_completion, network)
                else:
                    found["full"] += 1
                    told = plan_completion(network=network)
                    self.all_tuples(told)
                    self.assertIs(is_completion(network, told), True)
        self.assertTrue(min(found.values()) > 5, found)

    def test_refused_in_order(self):
        kind = order_kind()
        told = [(0, 1, 0), (1, 2, 0), (2, 0, 0)]
        self.refused(Refused, 1, plan_completion, Network(kind, 6, told))
        ring = [(0, 3, 0), (3, 4, 0), (4, 5, 0), (5, 0, 0)]
        self.refused(Refused, 0, plan_completion, Network(kind, 6, told + ring))
        for apart in (all_but_threes(2), all_but_threes(3), distance_kind((1, 2, 4)), Kind((0,), [])):
            for triples in ([], [(0, 1, 0)], told, told + ring):
                self.refused(NotDeciding, 0, plan_completion, Network(apart, 6, [t[:2] + (0,) for t in triples]))

    def test_kinds_that_glue_but_do_not_meet(self):
        kind = sector_kind(3)
        network = Network(kind, 4, [(0, 1, 0), (1, 2, 0), (0, 2, 1), (2, 3, 2)])
        self.assertIs(is_completion(network, plan_completion(network)), True)

    def test_a_fault_tells_all_pairs_but_one(self):
        for kind in (all_but_threes(2), all_but_threes(3), distance_kind((1, 2, 4)), distance_kind((1, 2, 3, 5))):
            rows, one, other = gluing_fault(kind)
            many = len(rows)
            told = [(u, v, rows[u][v]) for u, v in combinations(range(many), 2)]
            told += [(many, u, x) for u, x in enumerate(one)] + [(many + 1, u, x) for u, x in enumerate(other)]
            network = Network(kind, many + 2, told)
            self.assertIsNotNone(ring_plan(web_of(network)))
            self.assertIs(slow_sound(network), True)
            self.assertIs(slow_first_completion(network), None)
            self.assertIs(is_against(kind, network), True)

    def test_few_places(self):
        for kind in KINDS:
            self.assertEqual(plan_completion(Network(kind, 1, [])), ((None,),))
        self.assertEqual(ring_plan(Web(1, [])), (0,))
        self.assertEqual(ring_plan(Web(12, [])), tuple(range(12)))
        self.assertEqual(ring_plan(full_web(12)), tuple(range(12)))
        self.assertEqual(ring_plan(Web(3, [(0, 2), (1, 2)])), (0, 2, 1))

    def test_twelve_places(self):
        chance = random.Random(512)
        for kind in (level_kind(5), distance_kind((1, 2, 3, 4, 5)), order_kind(), sum_kind(5), sector_kind(5)):
            for share in (0, 0.3, 0.6, 1):
                # Each place is told with some of those that make, with one of them, a full part.
                fulls = [()]
                pairs = []
                for place in range(12):
                    full = chance.choice(fulls)
                    kept = tuple(u for u in full if chance.random() < share)
                    pairs += [(u, place) for u in kept]
                    fulls.append(kept + (place,))
                web = Web(12, pairs)
                plan = self.soon(ring_plan, web)
                self.assertIs(is_plan(web, plan), True)
                rows = plan_completion(Network(kind, 12, [])) if kind.relations > 2 else None
                if rows is None:
                    rows = tuple(tuple(None if u == v else int(u > v) for v in range(12)) for u in range(12))
                network = Network(kind, 12, [(u, v, rows[u][v]) for u, v in web.pairs])
                self.assertIs(is_completion(network, self.soon(plan_completion, network)), True)
            self.assertIs(self.soon(ring_plan, ring_web(12)), None)


class FurtherPairs(Case):
    def slow_lots(self, kind, web):
        """All lots of untold pairs with which the web is safe, the smallest ahead, then ascending."""
        untold = [pair for pair in combinations(range(web.places), 2) if pair not in web.pairs]
        for many in range(len(untold) + 1):
            for further in combinations(untold, many):
                if slow_safe(kind, Web(web.places, web.pairs + further)):
                    yield further

    def test_further_pairs(self):
        sizes = set()
        for kind in (level_kind(2), sum_kind(2), distance_kind((1, 2, 3, 4)), distance_kind((1, 2, 3, 4, 5)),
                     free_kind(2)):
            for web in some_webs(52, 6, 12):
                told = further_pairs(kind=kind, web=web)
                self.all_tuples(told)
                self.assertEqual(told, next(self.slow_lots(kind, web)))
                self.assertIs(told == (), is_safe(kind, web))
                sizes.add(len(told))
        self.assertLessEqual({0, 1, 2, 3}, sizes)

    def test_all_further(self):
        many = set()
        for kind in (level_kind(2), sum_kind(2), distance_kind((1, 2, 3, 4)), distance_kind((1, 2, 3, 4, 5))):
            for web in list(some_webs(520, 5, 10)) + [ring_web(6)]:
                if web.places < 6 or kind == level_kind(2):
                    least = []
                    for further in self.slow_lots(kind, web):
                        if not any(set(part) <= set(further) for part in least):
                            least.append(further)
                    told = all_further(kind=kind, web=web)
                    self.all_tuples(told)
                    self.assertEqual(told, tuple(sorted(least)))
                    self.assertIs(told == ((),), is_safe(kind, web))
                    many.add(len(told))
        self.assertLessEqual({1, 2, 5, 14}, many)

    def test_polygons(self):
        for kind in (level_kind(2), order_kind(), sum_kind(3), distance_kind((1, 3))):
            for places, many in ((4, 2), (5, 5), (6, 14)):
                told = self.soon(all_further, kind, ring_web(places))
                self.assertEqual(len(told), many)
                self.assertEqual({len(further) for further in told}, {places - 3})
                self.assertEqual(told, tuple(sorted(told)))
        # With a reach of four a ring of five places is safe by itself, and a ring of four is not.
        kind = distance_kind((1, 2, 3, 4))
        self.assertEqual(all_further(kind, ring_web(5)), ((),))
        self.assertEqual(all_further(kind, ring_web(4)), (((0, 2),), ((1, 3),)))

    def test_rings_that_share_no_untold_pair(self):
        # Two rings of four places with one place in common want one pair each.
        web = Web(7, [(0, 1), (1, 2), (2, 3), (0, 3), (3, 4), (4, 5), (5, 6), (3, 6)])
        self.assertEqual(further_pairs(level_kind(2), web), ((0, 2), (3, 5)))
        # A ring of five and one of four places with a pair in common.
        web = Web(7, [(0, 1), (1, 2), (2, 3), (3, 4), (0, 4), (4, 5), (5, 6), (3, 6)])
        self.assertEqual(len(further_pairs(level_kind(2), web)), 3)

    def test_all_lots_of_six_and_seven_places(self):
        chance = random.Random(521)
        for many in range(4, 22, 2):
            web = some_web(chance, 7, many)
            for kind in (level_kind(5), sum_kind(5), distance_kind((1, 2, 3, 4, 5))):
                told = self.soon(further_pairs, kind, web)
                self.assertIs(is_safe(kind, Web(7, web.pairs + told)), True)
        for many in range(4, 13, 2):
            web = some_web(chance, 6, many)
            for kind in (level_kind(5), sum_kind(5)):
                for further in self.soon(all_further, kind, web):
                    self.assertIs(is_safe(kind, Web(6, web.pairs + further)), True)
        pairs = [(u, v) for u in range(3) for v in range(3, 7)]
        self.assertEqual(self.soon(further_pairs, level_kind(2), Web(7, pairs)), ((0, 1), (0, 2), (1, 2)))


if __name__ == "__main__":
    unittest.main()
