"""The helper of webs and sums: triangles, and trees along pairs."""

import random
import unittest
from itertools import combinations

from ringsdecide.pairs import beside_places, count_parts, tree_steps, triangles_of
from tests.helpers import some_web


class Pairs(unittest.TestCase):
    def test_trees(self):
        chance = random.Random(0)
        for _ in range(60):
            web = some_web(chance, chance.randrange(1, 9), chance.randrange(12))
            beside = beside_places(web.places, web.pairs)
            for u in range(web.places):
                self.assertEqual(beside[u], [v for v in range(web.places)
                                             if (min(u, v), max(u, v)) in web.pairs])
            steps = tree_steps(web.places, web.pairs)
            self.assertEqual(sorted(steps), list(range(web.places)))
            first_of = {}
            for place, before in steps.items():
                if before is not None:
                    self.assertIn(before, first_of)
                    self.assertIn((min(before, place), max(before, place)), web.pairs)
                first_of[place] = place if before is None else first_of[before]
            for u, v in web.pairs:
                self.assertEqual(first_of[u], first_of[v])
            for place, first in first_of.items():
                self.assertLessEqual(first, place)
            self.assertEqual(count_parts(steps), len(set(first_of.values())))

    def test_triangles(self):
        self.assertEqual(triangles_of(5, list(combinations(range(5), 2))), tuple(combinations(range(5), 3)))
        self.assertEqual(triangles_of(4, [(0, 1), (0, 3), (1, 2), (2, 3)]), ())
        self.assertEqual(triangles_of(4, [(0, 1), (0, 2), (0, 3), (1, 2), (2, 3)]), ((0, 1, 2), (0, 2, 3)))


if __name__ == "__main__":
    unittest.main()
