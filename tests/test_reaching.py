"""[25] to [29]: how far rings have to be looked at."""

import random
import unittest
from itertools import combinations, permutations, product

from ringsdecide.bits import Joins, bits_of
from ringsdecide.built import (
    barred_kind, distance_kind, free_kind, level_kind, order_kind, sector_kind, sum_kind,
)
from ringsdecide.errors import NotDeciding, Refused
from ringsdecide.gluing import glues
from ringsdecide.kinds import Kind, renamed
from ringsdecide.meeting import decides
from ringsdecide.networks import Network
from ringsdecide.reaching import (
    at_count, bad_round, endless, far_relations, is_bad_round, is_endless, is_risky, lasting, lots_after, reach,
    repeats, word_back,
)
from ringsdecide.rings import bare_rings
from ringsdecide.ways import ends
from tests.helpers import (
    ODD_VALUES, Case, EqualToAll, all_but_threes, deciding_kinds, slow_ends, slow_first_completion, small_kinds,
    some_kinds, some_network, stands,
)

APART = [all_but_threes(2), distance_kind((1, 2, 4)), Kind((0,), []), Kind((1, 0), [])]


def gluing_kinds():
    found = [kind for kind in small_kinds() + list(some_kinds(4, 25, 26)) + list(some_kinds(5, 10, 27)) if glues(kind)]
    return found + [
        order_kind(), sum_kind(2), sum_kind(3), sum_kind(5), sector_kind(3), sector_kind(4), sector_kind(5),
        level_kind(2), level_kind(4), distance_kind((1, 2, 3)), distance_kind((1, 2, 3, 4, 5)),
        distance_kind((2, 3, 5)), distance_kind((1, 3)), free_kind(1), free_kind(4),
    ]


def slow_lots_after(kind, counts):
    """For each count up to this many the set of lots of all its words, from those of the words before."""
    found = [{frozenset([x]) for x in range(kind.relations)}]
    for _ in range(counts - 1):
        found.append({
            frozenset(z for a, b, z in kind.triples if a in lot and b == x)
            for lot in found[-1] for x in range(kind.relations)
        })
    return found


def round_network(kind, word):
    many = len(word)
    return Network(kind, many, [(at, (at + 1) % many, x) for at, x in enumerate(word)])


class Risky(Case):
    def test_rounds_tried_out(self):
        for kind in [kind for kind in small_kinds()[::2] if glues(kind)] + [
                order_kind(), sum_kind(2), level_kind(2), distance_kind((1, 2, 3)), sector_kind(3)]:
            every = set(range(kind.relations))
            risky = []
            for length in (3, 4, 5):
                wrong = 0
                for word in product(range(kind.relations), repeat=length):
                    if length == 5 and kind.relations > 2 and sum(word) % 3:
                        continue
                    can = slow_first_completion(round_network(kind, word)) is not None
                    self.assertIs(is_bad_round(kind=kind, value=word), not can)
                    self.assertIs(kind.turned[word[-1]] in slow_ends(kind, word[:-1]), can)
                    wrong += not can
                risky.append(is_risky(kind=kind, length=length))
                others = [word for word in product(range(kind.relations), repeat=length - 1)
                          if slow_ends(kind, word) != every]
                self.assertIs(risky[-1], others != [])
                if length < 5:
                    self.assertIs(risky[-1], wrong > 0)
            self.assertEqual(risky, sorted(risky, reverse=True))

    def test_lots_after(self):
        for kind in gluing_kinds():
            for at, lots in enumerate(slow_lots_after(kind, 9)):
                told = lots_after(kind=kind, count=at + 1)
                self.all_tuples(told)
                self.assertEqual(told, tuple(sorted(tuple(sorted(lot)) for lot in lots)))

    def test_words_one_by_one(self):
        for kind in [order_kind(), sector_kind(3), distance_kind((1, 2, 3)), level_kind(3)]:
            for count in (1, 2, 3, 4, 5):
                words = product(range(kind.relations), repeat=count)
                self.assertEqual(lots_after(kind, count), tuple(sorted({ends(kind, word) for word in words})))

    def test_reach(self):
        seen = set()
        for kind in gluing_kinds():
            told = reach(kind=kind)
            seen.add(told)
            every = frozenset(range(kind.relations))
            lots = slow_lots_after(kind, 40)
            risky = [length for length in range(3, 41) if lots[length - 2] != {every}]
            if told is None:
                self.assertEqual(risky, list(range(3, 41)))
            else:
                self.assertIs(type(told), int)
                self.assertEqual(risky, list(range(3, told + 1)))
            self.assertIs(told == 2, len(kind.triples) == kind.relations ** 3)
            for length in (3, 4, 5, 6, 7, 39, 10 ** 6, 10 ** 18, 10 ** 18 + 1):
                self.assertIs(is_risky(kind, length), told is None or length <= told)
        self.assertLessEqual({None, 2, 3, 4, 5}, seen)

    def test_known_reaches(self):
        self.assertEqual(
            ([reach(distance_kind(tuple(range(1, many + 1)))) for many in range(1, 6)], reach(order_kind()),
             reach(free_kind(3))),
            ([2, 2, 3, 4, 5], None, 2),
        )
        for many in (2, 3, 4, 5):
            self.assertIsNone(reach(level_kind(many)))
            self.assertIsNone(reach(sum_kind(many)))
        self.assertEqual([reach(sector_kind(many)) for many in (2, 3, 4, 5)], [2, 3, 4, 5])
        self.assertEqual(reach(free_kind(1)), 2)
        self.assertEqual(reach(distance_kind((2, 3, 5))), 3)
        self.assertIsNone(reach(distance_kind((1, 3))))

    def test_renamed_kinds_have_the_same_reach(self):
        for kind in [order_kind(), sector_kind(3), distance_kind((1, 2, 3)), level_kind(3)]:
            for names in permutations(range(kind.relations)):
                self.assertEqual(reach(renamed(kind, names)), reach(kind))

    def test_networks_without_long_bare_rings(self):
        chance = random.Random(26)
        tried = 0
        for kind in deciding_kinds() + [distance_kind((1, 2, 3, 4)), order_kind(), level_kind(2)]:
            most = reach(kind)
            for share in (0.4, 0.5, 0.6):
                network = some_network(chance, kind, 5, share)
                rings = bare_rings(network)
                if any(len(ring) > 3 and (most is None or len(ring) <= most) for ring in rings):
                    continue
                word = [tuple(network.between(ring[at], ring[(at + 1) % 3]) for at in range(3)) for ring in rings
                        if len(ring) == 3]
                if all((x, y, kind.turned[z]) in kind.triples for x, y, z in word):
                    tried += 1
                    self.assertIsNotNone(slow_first_completion(network))
        self.assertGreater(tried, 30)


class Repeats(Case):
    def test_repeats(self):
        for kind in gluing_kinds():
            told = repeats(kind=kind)
            self.assertIs(type(told), tuple)
            start, period = told
            lots = slow_lots_after(kind, 60)
            self.assertLess(start + 2 * period, 40)

            def fits(start, period):
                return all(lots[n - 1] == lots[n + period - 1] for n in range(start, 60 - period + 1))

            self.assertTrue(fits(start, period))
            self.assertFalse(any(fits(other, shorter) for shorter in range(1, period) for other in range(1, 30)))
            self.assertFalse(any(fits(earlier, period) for earlier in range(1, start)))
            for count in (start, start + 1, 7, 10 ** 18, 10 ** 18 + 1):
                if count >= start:
                    less = start + (count - start) % period
                    self.assertEqual(lots_after(kind, count), lots_after(kind, less))

    def test_own_turned_kinds_have_period_one(self):
        for kind in gluing_kinds():
            if kind.turned == tuple(range(kind.relations)):
                self.assertEqual(repeats(kind)[1], 1)

    def test_known_repeats(self):
        self.assertEqual(repeats(free_kind(1)), (1, 1))
        self.assertEqual(repeats(sum_kind(5)), (1, 1))
        self.assertEqual(repeats(order_kind()), (2, 1))
        self.assertEqual(repeats(free_kind(2)), (2, 1))
        self.assertEqual(repeats(distance_kind((1, 2, 3, 4))), (4, 1))
        self.assertEqual(repeats(level_kind(2)), (2, 1))


    def test_what_comes_again_after_some(self):
        # Kinds of few relations repeat each single count; that longer periods are told right is tried without a kind.
        found = ["a", "b", "c", "d", "e"]
        for start in range(5):
            row = found + found[start:] * 10
            for count in range(1, 30):
                if count <= len(row):
                    self.assertEqual(at_count((found, start), count), row[count - 1])
        self.assertEqual(at_count((found, 2), 10 ** 18), found[2 + (10 ** 18 - 3) % 3])


class Rounds(Case):
    def test_bad_round(self):
        for kind in gluing_kinds():
            for length in (3, 4, 5, 6, 17, 999, 1000):
                if not is_risky(kind, length):
                    self.refused(Refused, 0, bad_round, kind, length)
                    continue
                told = bad_round(kind=kind, length=length)
                self.assertIs(type(told), tuple)
                self.all_tuples(told)
                self.assertEqual(len(told), length)
                self.assertTrue(all(type(x) is int and 0 <= x < kind.relations for x in told))
                self.assertIs(is_bad_round(kind, told), True)
                self.assertNotIn(kind.turned[told[-1]], slow_ends(kind, told[:-1]))
                if length < 6:
                    self.assertIsNone(slow_first_completion(round_network(kind, told)))

    def test_long_rounds_soon(self):
        for kind in [order_kind(), level_kind(5), sum_kind(5)]:
            told = self.soon(bad_round, kind, 1000)
            self.assertIs(self.soon(is_bad_round, kind, told), True)
            for at in (1, 500):
                self.assertIs(is_bad_round(kind, told[at:] + told[:at]), True)
            self.assertIs(is_bad_round(kind, told[:-1]), kind.turned[told[-2]] not in ends(kind, told[:-2]))
        self.assertIs(is_bad_round(order_kind(), (0,) * 1000), True)
        self.assertIs(is_bad_round(order_kind(), (0,) * 999 + (1,)), False)

    def test_is_bad_round_of_any_value(self):
        kind = order_kind()
        self.assertIs(is_bad_round(kind, (0, 0, 0)), True)
        self.assertIs(is_bad_round(kind, (1, 1, 1, 1)), True)
        for value in ODD_VALUES + [
            (0, 0), (0,), [0, 0, 0], (0, 0, 1), (0, 0, 2), (0, 0, -1), (False, False, False), (0, 0, False),
            (True, True, True), (0, 0, 0.0), (0, 0, None), ((0, 0, 0),), (0, 0, EqualToAll()), (0, 0, [0]),
            (0, 0, "0"), (1, 1),
        ]:
            self.assertIs(is_bad_round(kind, value), False)


class Endless(Case):
    def test_endless(self):
        number = 0
        for kind in gluing_kinds():
            told = endless(kind=kind)
            self.assertIs(told is None, reach(kind) is not None)
            if told is None:
                number += 1
                continue
            self.assertIs(type(told), tuple)
            self.all_tuples(told)
            head, more = told
            self.assertTrue(head and more)
            every = set(range(kind.relations))
            self.assertIs(is_endless(kind=kind, value=told), True)
            before = slow_ends(kind, head)
            self.assertNotEqual(before, every)
            for often in range(1, 8):
                self.assertEqual(slow_ends(kind, head + more * often), before)
        self.assertGreater(number, 4)

    def test_words_that_lead_back(self):
        lengths = set()
        for kind in list(some_kinds(3, 60, 28)) + [sum_kind(4), order_kind(), sector_kind(4)]:
            joins = Joins(kind)
            for head in product(range(kind.relations), repeat=2):
                before = slow_ends(kind, head)
                told = word_back(joins, bits_of(before))
                fits = [more for length in (1, 2, 3) for more in product(range(kind.relations), repeat=length)
                        if slow_ends(kind, head + more) == before]
                self.assertIs(told is None or len(told) > 3, fits == [])
                if fits:
                    lengths.add(len(told))
                    self.assertIn(told, fits)
                    self.assertEqual(len(told), len(fits[0]))
        self.assertLessEqual({1, 2}, lengths)

    def test_is_endless(self):
        for kind in [order_kind(), level_kind(3), sum_kind(3), distance_kind((1, 2, 3)), sector_kind(3)]:
            every = set(range(kind.relations))
            words = [word for length in (1, 2, 3) for word in product(range(kind.relations), repeat=length)]
            for head in words[::3]:
                for more in words[::2]:
                    before = slow_ends(kind, head)
                    fits = before != every and slow_ends(kind, head + more) == before
                    self.assertIs(is_endless(kind, (head, more)), fits)

    def test_long_words(self):
        kind = order_kind()
        self.assertIs(is_endless(kind, ((0,) * 1000, (0,) * 1000)), True)
        self.assertIs(is_endless(kind, ((0,) * 1000, (0,) * 999 + (1,))), False)
        self.assertIs(is_endless(kind, ((0,), (1,))), False)

    def test_is_endless_of_any_value(self):
        kind = order_kind()
        good = ((0,), (0,))
        self.assertIs(is_endless(kind, good), True)
        for value in ODD_VALUES + [
            list(good), ([0], (0,)), ((0,), [0]), ((), (0,)), ((0,), ()), ((0,),), good + ((0,),), ((2,), (2,)),
            ((False,), (False,)), ((0,), (False,)), ((False,), (0,)), (0, 0), ((0,), 0), (good, good),
            ((0, EqualToAll()), (0,)), (EqualToAll(), EqualToAll()), ((0.0,), (0,)), ((0,), (-1,)), ("0", "0"),
        ]:
            self.assertIs(is_endless(kind, value), False)
        for value in ODD_VALUES:
            if not (type(value) is tuple and value == (0,)):
                self.assertIs(is_endless(kind, (value, (0,))), False)
                self.assertIs(is_endless(kind, ((0,), value)), False)

    def test_lasting(self):
        for kind in gluing_kinds():
            every = set(range(kind.relations))
            told = lasting(kind=kind)
            self.assertIs(type(told), tuple)
            slow = [x for x in range(kind.relations)
                    if all(slow_ends(kind, (x,) * count) != every for count in range(1, 70))]
            self.assertEqual(told, tuple(slow))
            if told:
                self.assertIsNone(reach(kind))
            if kind.turned == tuple(range(kind.relations)):
                self.assertIs(reach(kind) is None, told != ())
                if not told and kind.relations > 1:
                    self.assertLessEqual(reach(kind), 3 * kind.relations - 3)
        self.assertEqual(lasting(order_kind()), (0, 1))
        self.assertEqual(lasting(level_kind(3)), (0, 1))
        self.assertEqual(lasting(distance_kind((1, 2, 3))), ())
        self.assertEqual(lasting(distance_kind((1, 3))), (0,))
        self.assertEqual(lasting(sum_kind(2)), (0, 1))
        self.assertEqual(lasting(free_kind(1)), ())

    def test_each_second_like_letter_makes_more(self):
        for kind in gluing_kinds():
            if kind.turned == tuple(range(kind.relations)):
                for length in (1, 2, 3):
                    for word in list(product(range(kind.relations), repeat=length))[::5]:
                        for x in range(kind.relations):
                            self.assertLessEqual(slow_ends(kind, word), slow_ends(kind, word + (x, x)))


class Far(Case):
    def test_far_relations(self):
        for kind in gluing_kinds():
            told = far_relations(kind=kind)
            self.assertIs(type(told), tuple)
            slow = [f for f in range(kind.relations) if all((x, f, f) in kind.triples for x in range(kind.relations))]
            self.assertEqual(told, tuple(slow))
        for many in (1, 2, 3, 4, 5):
            self.assertIn(many - 1, far_relations(level_kind(many)))
            self.assertIn(many - 1, far_relations(distance_kind(tuple(range(1, many + 1)))))
        self.assertEqual(far_relations(order_kind()), (0, 1))
        self.assertEqual(far_relations(sum_kind(2)), ())
        self.assertEqual(far_relations(level_kind(3)), (2,))

    def test_a_further_place(self):
        chance = random.Random(29)
        for kind in gluing_kinds():
            for f in far_relations(kind):
                network = some_network(chance, kind, 4, 0.6)
                rows = slow_first_completion(network)
                if rows is None:
                    continue
                told = {(u, v): rows[u][v] for u, v in combinations(range(4), 2)}
                # Towards the new place, which comes last, each place has f.
                told.update({(u, 4): f for u in range(4)})
                found = [[None] * 5 for _ in range(5)]
                for (u, v), x in told.items():
                    found[u][v], found[v][u] = x, kind.turned[x]
                self.assertIs(stands(kind, found), True)

    def test_webs_that_go_wrong(self):
        chance = random.Random(290)
        tried = 0
        for kind in gluing_kinds():
            for f in far_relations(kind):
                for length in (4, 5):
                    if not is_risky(kind, length):
                        continue
                    word = bad_round(kind, length)
                    told = [(at, (at + 1) % length, x) for at, x in enumerate(word)]
                    places = length + 2
                    for u, v in combinations(range(places), 2):
                        if v >= length and chance.random() < 0.7:
                            told.append((u, v, f))
                    network = Network(kind, places, told)
                    rings = [ring for ring in bare_rings(network) if len(ring) == 3]
                    for a, b, c in rings:
                        triple = (network.between(a, b), network.between(b, c), network.between(a, c))
                        self.assertIn(triple, kind.triples)
                    self.assertIsNone(slow_first_completion(Network(kind, length, told[:length])))
                    tried += 1
        self.assertGreater(tried, 5)


class Refusals(Case):
    def test_not_deciding(self):
        for kind in APART:
            self.assertIs(glues(kind), False)
            for function in (reach, repeats, endless, lasting, far_relations):
                self.refused(NotDeciding, 0, function, kind)
            for function in (is_risky, lots_after, bad_round):
                for number in (3, 1000, 10 ** 18):
                    self.refused(NotDeciding, 0, function, kind, number)
            for function in (is_bad_round, is_endless):
                for value in ODD_VALUES + [(0, 0, 0), ((0,), (0,))]:
                    self.refused(NotDeciding, 0, function, kind, value)

    def test_kinds_that_do_not_meet_are_answered(self):
        kind = sector_kind(3)
        self.assertIs(decides(kind), False)
        self.assertEqual(reach(kind), 3)
        self.assertIs(is_bad_round(kind, bad_round(kind, 3)), True)
        self.refused(Refused, 0, bad_round, kind, 4)
        self.assertIsNone(endless(kind))

    def test_a_kind_with_its_reach_from_two_relations(self):
        # Of two relations, one of which never stands three times.
        kind = barred_kind((0, 1), [(0, 0, 0)])
        self.assertIs(glues(kind), True)
        self.assertEqual(reach(kind), 3)
        self.assertEqual(bad_round(kind, 3), (0, 0, 0))
        self.assertEqual(lots_after(kind, 2), ((0, 1), (1,)))


if __name__ == "__main__":
    unittest.main()
