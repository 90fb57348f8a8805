"""[49]: webs."""

import unittest
from itertools import combinations, permutations

from ringsdecide.errors import InvalidNetwork
from ringsdecide.webs import Web
from tests.helpers import ODD_VALUES, Case, EqualToAll, all_webs


class Webs(Case):
    def test_attributes(self):
        web = Web(places=4, pairs=[(3, 1), (0, 1), (2, 0)])
        self.assertEqual((web.places, web.pairs), (4, ((0, 1), (0, 2), (1, 3))))
        self.all_tuples(web.pairs)
        for pairs in [(), []]:
            self.assertEqual((Web(1, pairs).places, Web(1, pairs).pairs), (1, ()))
        pairs = list(combinations(range(25), 2))
        self.assertEqual(Web(100, [pair[::-1] for pair in pairs]).pairs, tuple(pairs))

    def test_equal(self):
        webs = list(all_webs(3)) + [Web(4, []), Web(4, [(0, 1)])]
        for at, one in enumerate(webs):
            for other_at, other in enumerate(webs):
                self.assertIs(one == other, at == other_at)
                self.assertIs(one != other, at != other_at)
        self.assertEqual(Web(3, [(0, 1), (2, 1)]), Web(3, ((1, 2), (1, 0))))
        for value in ODD_VALUES + [(3, ((0, 1),)), EqualToAll()]:
            self.assertIs(Web(3, [(0, 1)]) == value, False)

    def test_arguments_stay(self):
        pairs = [(1, 0)]
        web = Web(3, pairs)
        pairs.append((1, 2))
        self.assertEqual(web.pairs, ((0, 1),))
        self.assertEqual(pairs, [(1, 0), (1, 2)])

    def test_places_refused(self):
        for value in ODD_VALUES + [0, -1, True, 2.0, "2", (2,), [2], EqualToAll()]:
            if type(value) is int and value > 0:
                continue
            self.refused(InvalidNetwork, 0, Web, value, [])
            self.refused(InvalidNetwork, 0, Web, value, None)

    def test_pairs_refused(self):
        for value in ODD_VALUES:
            if type(value) not in (list, tuple):
                self.refused(InvalidNetwork, 1, Web, 3, value)
            self.refused(InvalidNetwork, 2, Web, 3, [(0, 1), value, None])
        for entry in [[1, 2], (1,), (1, 2, 0), (1, 1), (1, 3), (3, 1), (-1, 2), (True, 2), (0, True), (2, False),
                      (1.0, 2), (1, None), (1, [2]), ((1, 2),), ([1], 2), (1, EqualToAll()), (EqualToAll(), 1),
                      EqualToAll(), {1, 2}, "12", (0, 1), (1, 0)]:
            self.refused(InvalidNetwork, 2, Web, 3, [(0, 1), entry, (0, 1)])
            self.refused(InvalidNetwork, 2, Web, 3, ((1, 0), entry))
        self.refused(InvalidNetwork, 1, Web, 1, [(0, 0)])
        self.refused(InvalidNetwork, 4, Web, 3, [(0, 1), (0, 2), (2, 1), (2, 0)])
        for order in permutations([(0, 1), (1, 2), (2, 0)]):
            self.assertEqual(Web(3, order), Web(3, [(0, 1), (0, 2), (1, 2)]))


if __name__ == "__main__":
    unittest.main()
