"""[47], [48]: sound webs, ring groups, wound webs."""

import random
import unittest
from itertools import combinations, product
from math import gcd

from ringsdecide.built import sum_kind
from ringsdecide.clocks import (
    beside, count_tellings, is_sound, is_unsound, ring_group, triangle_rank, unsound, wound_web,
)
from ringsdecide.errors import InvalidQuestion
from ringsdecide.networks import Network
from ringsdecide.sums import heights
from ringsdecide.triangles import triangle_sum, web_triangles
from ringsdecide.webs import Web, ring_plan
from tests.helpers import (
    ODD_VALUES, Case, EqualToAll, all_webs, full_web, ring_web, slow_even_tellings, slow_row, slow_web_rings,
    some_web, weighed,
)

PRIMES = (2, 3, 5, 7, 999983)


def small_webs():
    """Webs of few places and pairs; some with several parts, some without pairs."""
    yield from all_webs(4)
    chance = random.Random(47)
    for _ in range(12):
        yield some_web(chance, 5, chance.randrange(4, 8))
    yield from [ring_web(5), ring_web(6), Web(1, []), Web(3, []), Web(5, [(0, 1), (2, 3)])]
    yield beside(ring_web(4), ring_web(3))


def tried_moduli(web):
    """Moduli for which all tellings of a web can be gone through."""
    return [modulus for modulus in (1, 2, 3, 4, 6) if modulus ** len(web.pairs) <= 5000]


def count_parts(web):
    """How many parts a web has."""
    parts = [{place} for place in range(web.places)]
    for u, v in web.pairs:
        one = next(part for part in parts if u in part)
        other = next(part for part in parts if v in part)
        if one is not other:
            parts.remove(other)
            one |= other
    return len(parts)


def slow_rank(rows, prime):
    """The rank of rows modulo a prime."""
    rows = [[x % prime for x in row] for row in rows]
    rank = 0
    while rows:
        row = rows.pop()
        at = next((at for at, x in enumerate(row) if x), None)
        if at is None:
            continue
        rank += 1
        back = pow(row[at], -1, prime)
        rows = [[(x - other[at] * back * y) % prime for x, y in zip(other, row)] for other in rows]
    return rank


def counted(web, modulus, group):
    """What the ring group says of how many tellings there are."""
    free, factors = group
    told = modulus ** (web.places - count_parts(web) + free)
    for factor in factors:
        told *= gcd(modulus, factor)
    return told


class SoundWebs(Case):
    def test_count_tellings(self):
        for web in small_webs():
            for modulus in tried_moduli(web):
                told = count_tellings(web=web, modulus=modulus)
                self.assertIs(type(told), int)
                self.assertEqual(told, len(list(slow_even_tellings(web, modulus))))

    def test_is_sound(self):
        many = {True: 0, False: 0}
        for web in small_webs():
            rows = [slow_row(web, ring) for ring in slow_web_rings(web)]
            for modulus in tried_moduli(web):
                sound = all(
                    weighed(row, telling, modulus) == 0
                    for telling in slow_even_tellings(web, modulus) for row in rows
                )
                self.assertIs(is_sound(web=web, modulus=modulus), sound)
                many[sound] += 1
                self.assertIs(sound, all(triangle_sum(web, modulus, ring) is not None
                                         for ring in slow_web_rings(web)))
        self.assertTrue(min(many.values()) > 20, many)

    def test_networks_of_sums(self):
        # Sound for 1 to 6 means that each network of just these pairs whose triangles are allowed has a completion.
        for web in [ring_web(3), ring_web(4), full_web(4), Web(4, [(0, 1), (1, 2), (0, 2), (2, 3), (0, 3)]),
                    Web(5, [(0, 1), (1, 2), (2, 3), (0, 3)])]:
            for modulus in range(1, 7):
                if modulus ** len(web.pairs) > 8000:
                    continue
                told = [[pair + (x,) for pair, x in zip(web.pairs, telling)]
                        for telling in slow_even_tellings(web, modulus)]
                networks = [Network(sum_kind(modulus), web.places, triples) for triples in told]
                self.assertIs(is_sound(web, modulus), all(heights(network) is not None for network in networks))

    def test_unsound(self):
        for web in list(small_webs()) + [wound_web(4, rounds) for rounds in (2, 3, 4, 6)]:
            rings = set(slow_web_rings(web)) if web.places < 7 else None
            for modulus in (1, 2, 3, 4, 5, 6, 9, 12, 999983, 10 ** 6):
                told = unsound(web=web, modulus=modulus)
                self.assertIs(told is None, is_sound(web, modulus))
                if told is not None:
                    self.check(web, modulus, told, rings)

    def check(self, web, modulus, told, rings=None):
        self.all_tuples(told)
        self.assertIs(type(told), tuple)
        telling, ring = told
        self.assertEqual(len(telling), len(web.pairs))
        for number in telling:
            self.assertIs(type(number), int)
            self.assertIn(number, range(modulus))
        for triangle in web_triangles(web):
            self.assertEqual(weighed(slow_row(web, triangle), telling, modulus), 0)
        self.assertGreater(len(ring), 2)
        self.assertEqual(len(set(ring)), len(ring))
        self.assertNotEqual(weighed(slow_row(web, ring), telling, modulus), 0)
        self.assertIs(is_unsound(web=web, modulus=modulus, value=told), True)
        if rings is not None:
            turned = ring[ring.index(min(ring)):] + ring[:ring.index(min(ring))]
            if turned[1] > turned[-1]:
                turned = turned[:1] + turned[:0:-1]
            self.assertIn(turned, rings)

    def test_is_unsound(self):
        for web in [ring_web(4), Web(4, [(0, 1), (1, 2), (0, 2), (2, 3), (0, 3)]),
                    Web(5, [(0, 1), (1, 2), (2, 3), (0, 3), (0, 2), (3, 4), (2, 4)]), ring_web(3)]:
            for modulus in (1, 2, 3):
                if modulus ** len(web.pairs) > 3000:
                    continue
                even = set(slow_even_tellings(web, modulus))
                for ring in slow_web_rings(web):
                    row = slow_row(web, ring)
                    for telling in product(range(modulus), repeat=len(web.pairs)):
                        right = telling in even and weighed(row, telling, modulus) != 0
                        self.assertIs(is_unsound(web, modulus, (telling, ring)), right)

    def test_is_unsound_of_any_value(self):
        web = ring_web(4)
        telling, ring = (1, 0, 0, 0), (0, 1, 2, 3)
        self.assertIs(is_unsound(web, 3, (telling, ring)), True)
        self.assertIs(is_unsound(web, 3, (telling, (2, 1, 0, 3))), True)
        for value in ODD_VALUES + [[telling, ring], (telling,), (telling, ring, 0), (ring, telling), EqualToAll()]:
            self.assertIs(is_unsound(web, 3, value), False)
        for value in ODD_VALUES + [list(telling), telling[:3], telling + (0,), (True, 0, 0, 0), (3, 0, 0, 0),
                                   (1.0, 0, 0, 0), (-1, 0, 0, 0), (1, 0, 0, None), ([1], 0, 0, 0), EqualToAll(),
                                   (1, 0, 0, EqualToAll()), (0, 0, 0, 0), (1, 2, 0, 3)]:
            self.assertIs(is_unsound(web, 3, (value, ring)), False)
        for value in ODD_VALUES + [list(ring), ring[:3], ring + (0,), (False, True, 2, 3), (0, 2, 1, 3), (0, 1, 2, 4),
                                   (0, 1, 2.0, 3), (0, [1], 2, 3), EqualToAll(), (0, 1, 2, EqualToAll())]:
            self.assertIs(is_unsound(web, 3, (telling, value)), False)

    def test_modulus_refused(self):
        web = ring_web(4)
        for modulus in ODD_VALUES + [0, -1, (2,), [2], 2.0, "2", EqualToAll()]:
            if type(modulus) is int and modulus > 0:
                continue
            self.refused(InvalidQuestion, 0, is_sound, web, modulus)
            self.refused(InvalidQuestion, 0, unsound, web, modulus)
            self.refused(InvalidQuestion, 0, is_unsound, web, modulus, None)
            self.refused(InvalidQuestion, 0, is_unsound, web, modulus, ((0, 0, 0, 0), (0, 1, 2, 3)))
            self.refused(InvalidQuestion, 0, count_tellings, web, modulus)

    def test_modulus_one(self):
        for web in small_webs():
            self.assertIs(is_sound(web, 1), True)
            self.assertIs(unsound(web, 1), None)
            self.assertEqual(count_tellings(web, 1), 1)


class Ranks(Case):
    def test_triangle_rank(self):
        for web in list(small_webs()) + [full_web(6), wound_web(4, 2), wound_web(4, 3), wound_web(5, 6)]:
            rows = [slow_row(web, triangle) for triangle in web_triangles(web)]
            bound = len(web.pairs) - web.places + count_parts(web)
            for prime in PRIMES:
                told = triangle_rank(web=web, prime=prime)
                self.assertIs(type(told), int)
                self.assertEqual(told, slow_rank(rows, prime))
                self.assertIs(is_sound(web, prime), told == bound)
                self.assertEqual(count_tellings(web, prime), prime ** (len(web.pairs) - told))

    def test_moduli(self):
        # Sound exactly if so for each prime divisor, by its rank.
        for web in [wound_web(4, 2), wound_web(5, 3), wound_web(4, 4), wound_web(4, 6), ring_web(4), full_web(5)]:
            bound = len(web.pairs) - web.places + count_parts(web)
            for modulus in list(range(1, 40)) + [210, 1024, 999999, 10 ** 6]:
                primes = [prime for prime in range(2, 1000) if modulus % prime == 0
                          and all(prime % less for less in range(2, prime))]
                self.assertIs(is_sound(web, modulus), all(triangle_rank(web, prime) == bound for prime in primes))

    def test_no_prime(self):
        web = full_web(4)
        for prime in (2, 3, 5, 999983, 1000003):
            self.assertEqual(triangle_rank(web, prime), 3)
        for prime in ODD_VALUES + [0, 1, -2, -3, 4, 6, 9, 25, 49, 999999, 10 ** 6, 999983 * 3, 2.0, "2", (2,), [3],
                                   EqualToAll(), 10 ** 40 + 2, 997 ** 2]:
            if prime != 7:
                self.refused(InvalidQuestion, 0, triangle_rank, web, prime)


class GroupCase(Case):
    def is_group(self, told):
        self.assertIs(type(told), tuple)
        free, factors = told
        self.assertIs(type(free), int)
        self.assertIs(type(factors), tuple)
        for at, factor in enumerate(factors):
            self.assertGreaterEqual(factor, 2)
            self.assertTrue(at == 0 or factor % factors[at - 1] == 0)


class Groups(GroupCase):
    def test_small_webs(self):
        for web in small_webs():
            group = ring_group(web=web)
            self.is_group(group)
            for modulus in tried_moduli(web):
                self.assertEqual(len(list(slow_even_tellings(web, modulus))), counted(web, modulus, group))
            for modulus in list(range(1, 20)) + [999983, 10 ** 6]:
                self.assertEqual(count_tellings(web, modulus), counted(web, modulus, group))

    def test_is_sound_by_the_group(self):
        webs = [wound_web(4, rounds) for rounds in range(1, 8)] + [ring_web(5), Web(3, [])]
        webs += [beside(wound_web(4, 2), wound_web(4, 3)), beside(wound_web(4, 2), wound_web(4, 4)),
                 beside(ring_web(4), wound_web(4, 2))]
        for web in webs:
            free, factors = group = ring_group(web)
            self.is_group(group)
            for modulus in range(1, 40):
                sound = modulus == 1 or free == 0 and all(gcd(factor, modulus) == 1 for factor in factors)
                self.assertIs(is_sound(web, modulus), sound)
                self.assertEqual(count_tellings(web, modulus), counted(web, modulus, group))

    def test_few_pairs(self):
        self.assertEqual(ring_group(Web(1, [])), (0, ()))
        self.assertEqual(ring_group(Web(7, [])), (0, ()))
        self.assertEqual(ring_group(Web(7, [(0, 1), (2, 3), (3, 4)])), (0, ()))
        self.assertEqual(ring_group(beside(ring_web(4), ring_web(5))), (2, ()))
        self.assertEqual(count_tellings(Web(7, [(0, 1), (2, 3), (3, 4)]), 10), 1000)

    def test_examples(self):
        self.assertEqual(
            (ring_group(wound_web(4, 3)), is_sound(wound_web(4, 3), 3), is_sound(wound_web(4, 3), 4)),
            ((0, (3,)), False, True),
        )
        self.assertEqual(
            (ring_group(Web(4, [(0, 1), (1, 2), (2, 3), (0, 3)])),
             count_tellings(Web(3, [(0, 1), (1, 2), (0, 2)]), 5)),
            ((1, ()), 25),
        )

    def test_factors_divide_each_other(self):
        web = beside(beside(wound_web(4, 4), wound_web(4, 6)), wound_web(4, 3))
        self.assertEqual(ring_group(beside(wound_web(4, 4), wound_web(4, 6))), (0, (2, 12)))
        self.assertEqual(ring_group(beside(wound_web(4, 2), wound_web(4, 3))), (0, (6,)))
        self.assertEqual(ring_group(beside(wound_web(4, 2), wound_web(4, 2))), (0, (2, 2)))
        self.assertEqual(ring_group(web), (0, (6, 12)))


class WoundWebs(GroupCase):
    def test_wound_web(self):
        web = wound_web(length=4, rounds=1)
        ring = [(0, 1), (1, 2), (2, 3), (0, 3), (4, 5), (5, 6), (6, 7), (4, 7)]
        hub = [(at, 8) for at in range(4, 8)]
        spokes = [(0, 4), (1, 4), (1, 5), (2, 5), (2, 6), (3, 6), (3, 7), (0, 7)]
        self.assertEqual(web, Web(9, ring + hub + spokes))
        for length, rounds in [(4, 2), (5, 3), (7, 1), (4, 18)]:
            web = wound_web(length, rounds)
            outer = length * rounds
            self.assertEqual((web.places, len(web.pairs)), (length + outer + 1, length + 4 * outer))
            pairs = set(web.pairs)
            for at in range(length):
                self.assertIn(tuple(sorted((at, (at + 1) % length))), pairs)
            for j in range(outer):
                self.assertIn(tuple(sorted((length + j, length + (j + 1) % outer))), pairs)
                self.assertIn((length + j, length + outer), pairs)
                self.assertIn((j % length, length + j), pairs)
                self.assertIn(((j + 1) % length, length + j), pairs)

    def test_groups(self):
        for length in (4, 5, 6, 9):
            for rounds in range(1, 19):
                if length + 4 * length * rounds > 300:
                    continue
                web = wound_web(length, rounds)
                self.assertEqual(self.soon(ring_group, web), (0, (rounds,) if rounds > 1 else ()))
                for modulus in (1, 2, 3, 4, 5, 6, 35, 10 ** 6):
                    self.assertIs(is_sound(web, modulus), gcd(rounds, modulus) == 1)

    def test_beside(self):
        one, other = Web(3, [(0, 1), (1, 2)]), Web(4, [(0, 3), (1, 2), (0, 1)])
        self.assertEqual(beside(one=one, other=other), Web(6, [(0, 1), (1, 2), (2, 5), (3, 4), (2, 3)]))
        self.assertEqual(beside(Web(1, []), other), other)
        self.assertEqual(beside(other, Web(1, [])), other)
        self.assertEqual(beside(Web(1, []), Web(1, [])), Web(1, []))
        chance = random.Random(48)
        webs = [wound_web(4, 2), wound_web(4, 3), ring_web(4), full_web(4), Web(3, [])]
        webs += [some_web(chance, 6, chance.randrange(15)) for _ in range(10)]
        for one in webs:
            for other in webs:
                both = beside(one, other)
                self.assertEqual(both.places, one.places + other.places - 1)
                for modulus in (1, 2, 3, 4, 12, 999983):
                    self.assertEqual(count_tellings(both, modulus),
                                     count_tellings(one, modulus) * count_tellings(other, modulus))

    def test_webs_with_a_plan_or_a_hub(self):
        chance = random.Random(480)
        plans = 0
        for _ in range(60):
            web = some_web(chance, 7, chance.randrange(18))
            if ring_plan(web) is not None:
                plans += 1
                for modulus in (2, 3, 4, 30):
                    self.assertIs(is_sound(web, modulus), True)
            hub = Web(8, web.pairs + tuple((u, 7) for u in range(7)))
            self.assertEqual(ring_group(hub), (0, ()))
            self.assertIs(is_sound(hub, 720720), True)
        self.assertGreater(plans, 10)

    def test_many_pairs(self):
        chance = random.Random(481)
        webs = [full_web(24), full_web(25), ring_web(100), wound_web(4, 18), wound_web(9, 8)]
        webs += [some_web(chance, places, 300) for places in (26, 30, 36, 42, 46, 50, 60, 80, 100)]
        webs += [beside(beside(wound_web(4, 5), wound_web(4, 6)), wound_web(4, 4)), some_web(chance, 100, 99)]
        # All pairs but those of opposite places.
        webs.append(Web(24, [(u, v) for u, v in combinations(range(24), 2) if v - u != 12]))
        for web in webs:
            group = self.soon(ring_group, web)
            self.is_group(group)
            for modulus in (1, 2, 720720, 999983, 10 ** 6):
                self.assertEqual(self.soon(count_tellings, web, modulus), counted(web, modulus, group))
                told = self.soon(unsound, web, modulus)
                self.assertIs(told is None, self.soon(is_sound, web, modulus))
                if told is not None:
                    self.check_unsound(web, modulus, told)
            self.soon(triangle_rank, web, 999983)

    def check_unsound(self, web, modulus, told):
        telling, ring = told
        for triangle in web_triangles(web)[:20]:
            self.assertEqual(weighed(slow_row(web, triangle), telling, modulus), 0)
        self.assertNotEqual(weighed(slow_row(web, ring), telling, modulus), 0)
        self.assertIs(self.soon(is_unsound, web, modulus, told), True)


if __name__ == "__main__":
    unittest.main()
