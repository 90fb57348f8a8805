"""[46]: triangles of webs, and the rings that they sum to."""

import random
import unittest
from itertools import combinations, permutations, product

from ringsdecide.errors import InvalidQuestion
from ringsdecide.triangles import (
    is_telling_against, is_triangle_sum, ring_row, telling_against, triangle_sum, web_triangles,
)
from ringsdecide.webs import Web
from tests.helpers import (
    ODD_VALUES, Case, EqualToAll, all_webs, full_web, ring_web, slow_even_tellings, slow_row, slow_web_rings, some_web,
    weighed,
)



def small_webs():
    """Webs of few places and pairs."""
    yield from all_webs(4)
    chance = random.Random(46)
    for _ in range(10):
        yield some_web(chance, 5, chance.randrange(5, 8))
    yield from [ring_web(5), ring_web(6), Web(1, []), Web(3, [])]


def slow_triangle_sums(web, modulus, ring):
    """All triangle sums, by trying."""
    rows = [slow_row(web, triangle) for triangle in web_triangles(web)]
    wanted = slow_row(web, ring)
    for times in product(range(modulus), repeat=len(rows)):
        left = list(wanted)
        for count, row in zip(times, rows):
            left = [x - count * y for x, y in zip(left, row)]
        if all(x % modulus == 0 for x in left):
            yield times


def long_ring(chance, web):
    """Some ring of a web, found by a walk that has no place twice; or None."""
    beside = [[] for _ in range(web.places)]
    for u, v in web.pairs:
        beside[u].append(v)
        beside[v].append(u)
    for _ in range(200):
        walk = [chance.randrange(web.places)]
        while True:
            further = [v for v in beside[walk[-1]] if v not in walk]
            if not further:
                break
            walk.append(chance.choice(further))
        for at in range(len(walk) - 2):
            if walk[at] in beside[walk[-1]]:
                return tuple(walk[at:])
    return None


class Rows(Case):
    def test_web_triangles(self):
        for web in small_webs():
            told = web_triangles(web=web)
            self.all_tuples(told)
            self.assertEqual(told, tuple(
                triple for triple in combinations(range(web.places), 3)
                if all(pair in web.pairs for pair in combinations(triple, 2))
            ))
        self.assertEqual(len(self.soon(web_triangles, full_web(25))), 2300)

    def test_ring_row(self):
        for web in small_webs():
            for ring in slow_web_rings(web):
                for at in range(len(ring)):
                    turned = ring[at:] + ring[:at]
                    self.assertEqual(ring_row(web=web, ring=turned), slow_row(web, ring))
                    self.assertEqual(ring_row(web, turned[::-1]), tuple(-x for x in slow_row(web, ring)))
        self.assertEqual(ring_row(Web(4, [(2, 0), (1, 0), (2, 1), (3, 2)]), (0, 1, 2)), (1, -1, 1, 0))

    def test_rings_refused(self):
        web = Web(5, [(0, 1), (1, 2), (0, 2), (2, 3), (3, 0), (3, 4)])
        for ring in [(0, 1, 2), (1, 2, 3, 0), (3, 2, 0)]:
            self.assertEqual(len(ring_row(web, ring)), 6)
        for value in ODD_VALUES + [
            [0, 1, 2], (0, 1), (0, 1, 3), (0, 1, 2, 0), (0, 1, 2, 3, 4), (2, 3, 4), (False, True, 2), (0, 1, 2.0),
            (0, 1, -1), (0, 1, 5), ((0, 1, 2),), (0, [1], 2), (0, None, 2), EqualToAll(), (0, EqualToAll(), 2), "012",
        ]:
            self.refused(InvalidQuestion, 1, ring_row, web, value)
            for modulus in (1, 2, 10 ** 6):
                self.refused(InvalidQuestion, 1, triangle_sum, web, modulus, value)
                self.refused(InvalidQuestion, 1, telling_against, web, modulus, value)
                self.refused(InvalidQuestion, 1, is_triangle_sum, web, modulus, value, (0, 0))
                self.refused(InvalidQuestion, 1, is_telling_against, web, modulus, value, (0,) * 6)
            for modulus in (0, -1, True, None, 1.0, "2", [2], EqualToAll()):
                self.refused(InvalidQuestion, 0, triangle_sum, web, modulus, value)
                self.refused(InvalidQuestion, 0, telling_against, web, modulus, value)
                self.refused(InvalidQuestion, 0, is_triangle_sum, web, modulus, value, (0, 0))
                self.refused(InvalidQuestion, 0, is_telling_against, web, modulus, value, (0,) * 6)

    def test_modulus_refused(self):
        web = full_web(4)
        for modulus in ODD_VALUES + [0, -7, (2,)]:
            if type(modulus) is int and modulus > 0:
                continue
            self.refused(InvalidQuestion, 0, triangle_sum, web, modulus, (0, 1, 2))
            self.refused(InvalidQuestion, 0, telling_against, web, modulus, (0, 1, 2))
            self.refused(InvalidQuestion, 0, is_triangle_sum, web, modulus, (0, 1, 2), None)
            self.refused(InvalidQuestion, 0, is_telling_against, web, modulus, (0, 1, 2), None)


class Sums(Case):
    def check(self, web, modulus, ring):
        """Check that there is just one of both, and that it is right; whether it is a sum of triangles."""
        times = triangle_sum(web=web, modulus=modulus, ring=ring)
        telling = telling_against(web=web, modulus=modulus, ring=ring)
        self.assertIs(times is None, telling is not None)
        if times is not None:
            triangles = web_triangles(web)
            self.is_row(times, len(triangles), modulus)
            left = dict(zip(web.pairs, ring_row(web, ring)))
            for count, (u, v, w) in zip(times, triangles):
                left[u, v] -= count
                left[v, w] -= count
                left[u, w] += count
            self.assertTrue(all(x % modulus == 0 for x in left.values()))
            self.assertIs(is_triangle_sum(web, modulus, ring, times), True)
            return True
        self.is_row(telling, len(web.pairs), modulus)
        told = dict(zip(web.pairs, telling))
        for u, v, w in web_triangles(web):
            self.assertEqual((told[u, v] + told[v, w] - told[u, w]) % modulus, 0)
        self.assertNotEqual(weighed(ring_row(web, ring), telling, modulus), 0)
        self.assertIs(is_telling_against(web, modulus, ring, telling), True)
        return False

    def is_row(self, value, length, modulus):
        self.assertIs(type(value), tuple)
        self.assertEqual(len(value), length)
        for number in value:
            self.assertIs(type(number), int)
            self.assertIn(number, range(modulus))

    def test_just_one_of_both(self):
        both = {True: 0, False: 0}
        for web in small_webs():
            for modulus in (1, 2, 3, 4):
                if modulus ** len(web.pairs) > 5000:
                    continue
                tellings = list(slow_even_tellings(web, modulus))
                for ring in list(slow_web_rings(web))[:4]:
                    for turned in (ring, ring[1:] + ring[:1], ring[::-1]):
                        told = self.check(web, modulus, turned)
                    row = slow_row(web, ring)
                    against = [telling for telling in tellings if weighed(row, telling, modulus) != 0]
                    self.assertIs(told, not against)
                    self.assertIs(told, any(True for _ in slow_triangle_sums(web, modulus, ring)))
                    both[told] += 1
        self.assertTrue(both[True] > 100 and both[False] > 10, both)

    def test_is_triangle_sum(self):
        for web in [full_web(4), Web(4, [(0, 1), (1, 2), (0, 2), (2, 3), (0, 3)]), ring_web(4)]:
            for modulus in (1, 2, 3):
                for ring in slow_web_rings(web):
                    right = set(slow_triangle_sums(web, modulus, ring))
                    for value in product(range(modulus + 1), repeat=len(web_triangles(web))):
                        self.assertIs(
                            is_triangle_sum(web=web, modulus=modulus, ring=ring, value=value), value in right
                        )

    def test_is_telling_against(self):
        many = 0
        for web in [ring_web(4), ring_web(5), Web(5, [(0, 1), (1, 2), (2, 3), (0, 3), (0, 2), (3, 4)]), full_web(3)]:
            for modulus in (1, 2, 3):
                even = set(slow_even_tellings(web, modulus))
                for ring in slow_web_rings(web):
                    row = slow_row(web, ring)
                    for value in product(range(modulus + 1), repeat=len(web.pairs)):
                        right = value in even and weighed(row, value, modulus) != 0
                        self.assertIs(is_telling_against(web=web, modulus=modulus, ring=ring, value=value), right)
                        many += right
        self.assertGreater(many, 100)

    def test_any_values(self):
        web, ring = ring_web(4), (0, 1, 2, 3)
        self.assertIs(is_telling_against(web, 5, ring, (1, 0, 0, 0)), True)
        for value in ODD_VALUES + [[1, 0, 0, 0], (1, 0, 0), (1, 0, 0, 0, 0), (True, 0, 0, 0), (1, 0, 0, 5),
                                   (1, 0, 0, -1), (1, 0, 0, None), (1.0, 0, 0, 0), ((1,), 0, 0, 0), ([1], 0, 0, 0),
                                   (1, 0, 0, EqualToAll()), EqualToAll(), (0, 0, 0, 0), ((1, 0, 0, 0),)]:
            self.assertIs(is_telling_against(web, 5, ring, value), False)
        web = Web(4, [(0, 1), (1, 2), (0, 2), (2, 3), (0, 3)])
        self.assertIs(is_triangle_sum(web, 5, ring, (1, 1)), True)
        for value in ODD_VALUES + [[1, 1], (1,), (1, 1, 0), (True, True), (1, True), (1, 6), (6, 1), (-4, 1), (1.0, 1),
                                   (1, None), (1, [1]), (1, (1,)), (1, EqualToAll()), EqualToAll(), ((1, 1),)]:
            self.assertIs(is_triangle_sum(web, 5, ring, value), False)

    def test_modulus_one(self):
        for web in (ring_web(4), full_web(4), ring_web(3)):
            ring = tuple(range(web.places))
            self.assertIs(self.check(web, 1, ring), True)
            self.assertEqual(triangle_sum(web, 1, ring), (0,) * len(web_triangles(web)))
            self.assertIs(telling_against(web, 1, ring), None)
            self.assertIs(is_triangle_sum(web, 1, ring, (0,) * len(web_triangles(web))), True)
            self.assertIs(is_telling_against(web, 1, ring, (0,) * len(web.pairs)), False)

    def test_without_triangles(self):
        web = ring_web(5)
        self.assertEqual(web_triangles(web), ())
        self.assertIs(self.check(web, 2, (0, 1, 2, 3, 4)), False)
        self.assertEqual(triangle_sum(web, 1, (0, 1, 2, 3, 4)), ())
        web = Web(3, [])
        self.assertEqual(web_triangles(web), ())
        for value in [(), (0, 1, 2), None]:
            self.refused(InvalidQuestion, 1, triangle_sum, web, 1, value)
            self.refused(InvalidQuestion, 1, ring_row, web, value)

    def test_many_pairs(self):
        chance = random.Random(460)
        both = {True: 0, False: 0}
        webs = [full_web(24), full_web(25), ring_web(100)]
        webs += [some_web(chance, places, 300) for places in (26, 30, 36, 42, 46, 50, 60, 80, 100)]
        webs += [some_web(chance, 100, 150)]
        for web in webs:
            for modulus in (2, 720720, 999983, 10 ** 6):
                ring = long_ring(chance, web)
                if ring is not None:
                    both[self.soon(self.check, web, modulus, ring)] += 1
        self.assertTrue(both[True] > 15 and both[False] > 15, both)

    def test_order_of_rings_and_values(self):
        web = full_web(5)
        for ring in permutations(range(5)):
            self.assertIs(self.check(web, 7, ring), True)
        self.assertIs(is_triangle_sum(web, 7, (0, 1, 2), (1,) + (0,) * 9), True)
        self.assertIs(is_triangle_sum(web, 7, (0, 2, 1), (1,) + (0,) * 9), False)
        self.assertIs(is_triangle_sum(web, 7, (0, 2, 1), (6,) + (0,) * 9), True)


if __name__ == "__main__":
    unittest.main()
