"""[7]: some kinds."""

import unittest
from itertools import permutations, product

from ringsdecide.built import barred_kind, distance_kind, free_kind, level_kind, order_kind, sector_kind, sum_kind
from ringsdecide.errors import InvalidKind
from ringsdecide.kinds import Kind
from tests.helpers import ODD_VALUES, Case, EqualToAll, six_readings, turnings


class Built(Case):
    def test_free(self):
        for many in range(1, 7):
            kind = free_kind(many=many)
            self.assertEqual(kind.turned, tuple(range(many)))
            self.assertEqual(kind.triples, tuple(product(range(many), repeat=3)))

    def test_barred(self):
        for turned in turnings(3):
            for barred in [(), [(0, 0, 0)], ((0, 1, 2), (0, 1, 2)), [(2, 2, 1), (1, 0, 0), (0, 2, 0)]]:
                out = set()
                for triple in barred:
                    out |= six_readings(turned, triple)
                kind = barred_kind(list(turned), barred)
                self.assertEqual(kind.turned, turned)
                self.assertEqual(kind.triples, tuple(t for t in product(range(3), repeat=3) if t not in out))
        self.assertEqual(barred_kind(turned=(0,), barred=[]), free_kind(1))

    def test_barred_arguments_stay(self):
        turned, barred = [0, 1], [(1, 1, 1)]
        kind = barred_kind(turned, barred)
        self.assertEqual((turned, barred), ([0, 1], [(1, 1, 1)]))
        barred.append((0, 0, 0))
        turned.append(2)
        self.assertEqual((kind.turned, len(kind.triples)), ((0, 1), 7))

    def test_barred_refused(self):
        for value in ODD_VALUES:
            if not isinstance(value, (list, tuple)):
                self.refused(InvalidKind, 0, barred_kind, value, [])
                self.refused(InvalidKind, 2, barred_kind, (0, 1), value)
            if value != (0, 0, 0):
                self.refused(InvalidKind, 3, barred_kind, (0, 1), [(0, 1, 1), value])
        self.refused(InvalidKind, 0, barred_kind, (), None)
        self.refused(InvalidKind, 1, barred_kind, (0, 2), None)
        self.refused(InvalidKind, 0, barred_kind, (1, True), [])
        self.refused(InvalidKind, 4, barred_kind, (1, 0), [(0, 0, 0), (0, 1, 0), [0, 0, 0]])
        self.refused(InvalidKind, 3, barred_kind, (1, 0), [(0, 0, 0), (0, 1, 2), (0, 1)])
        self.refused(InvalidKind, 2, barred_kind, (1, 0), [(0, 0, True)])

    def test_order(self):
        kind = order_kind()
        self.assertEqual(kind.turned, (1, 0))
        found = set()
        for u, v, w in permutations(range(3)):
            found.add((int(u > v), int(v > w), int(u > w)))
        self.assertEqual(set(kind.triples), found)

    def test_level(self):
        for many in range(1, 7):
            kind = level_kind(many=many)
            self.assertEqual(kind.turned, tuple(range(many)))
            for triple in product(range(many), repeat=3):
                self.assertEqual(triple in kind.triples, sorted(triple)[1] == sorted(triple)[2])

    def test_distance(self):
        for numbers in [(1,), (7,), (1, 2), (1, 3), (2, 3, 5), (1, 2, 4), (1, 2, 3, 4, 5, 6), (3, 10, 11, 14, 20, 100),
                        (10 ** 30, 2 * 10 ** 30, 2 * 10 ** 30 + 1)]:
            kind = distance_kind(numbers=numbers)
            self.assertEqual(kind.turned, tuple(range(len(numbers))))
            for x, y, z in product(range(len(numbers)), repeat=3):
                a, b, c = numbers[x], numbers[y], numbers[z]
                self.assertEqual((x, y, z) in kind.triples, a <= b + c and b <= a + c and c <= a + b)

    def test_distance_refused(self):
        for value in ODD_VALUES:
            if not isinstance(value, tuple) or not value or value in ((None,), ((),), (0,), (True,)):
                self.refused(InvalidKind, 0, distance_kind, value)
        for numbers, at in [
            ([1, 2], 0), ((), 0), ((0,), 0), ((-1, 2), 0), ((True, 2), 0), ((1.0, 2), 0), ((1, 1), 1), ((2, 1), 1),
            ((1, 2, 2), 2), ((1, "2"), 1), ((1, None, 0), 1), ((1, 2, 3, 4, 5, 6, 7), 6), ((1, 2, 3, 4, 5, 6, 6), 6),
            ((1, 2, 3, 4, 5, 6, 7, 8, 9), 6), ((1, 2, 3, 4, 5, 6, 7, 7), 7), ((1, 2, 3, 4, 5, 6, 7, 8, None), 8),
            ((1, 2, 2, 4, 5, 6, 7), 2), ((1, 2, True), 2), ((1, EqualToAll()), 1),
        ]:
            self.refused(InvalidKind, at, distance_kind, numbers)

    def test_clocks(self):
        for many in range(1, 7):
            kind = sum_kind(many=many)
            for x in range(many):
                self.assertEqual((x + kind.turned[x]) % many, 0)
            for x, y, z in product(range(many), repeat=3):
                self.assertEqual((x, y, z) in kind.triples, (x + y - z) % many == 0)
            kind = sector_kind(many=many)
            for x in range(many):
                self.assertEqual((x + kind.turned[x] + 1) % many, 0)
            for x, y, z in product(range(many), repeat=3):
                self.assertEqual((x, y, z) in kind.triples, (z - x - y) % many in (0, 1))

    def test_all_are_kinds(self):
        for kind in [free_kind(1), level_kind(1), sum_kind(1), sector_kind(1), distance_kind((5,))]:
            self.assertIs(type(kind), Kind)
            self.assertEqual(kind, free_kind(1))
        self.assertEqual(sector_kind(2).turned, (1, 0))
        self.assertEqual(len(order_kind().triples), 6)


if __name__ == "__main__":
    unittest.main()
