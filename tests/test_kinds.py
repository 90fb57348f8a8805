"""[5], [6], [8]: kinds, readings, renamed kinds."""

import unittest
from itertools import permutations, product
from math import factorial

from ringsdecide.built import distance_kind, free_kind, level_kind, order_kind, sector_kind, sum_kind
from ringsdecide.errors import InvalidKind
from ringsdecide.kinds import Kind, is_allowed, likeness, readings, renamed, symmetries, together
from tests.helpers import (
    ODD_VALUES, Case, EqualToAll, all_kinds, reading_groups, six_readings, small_kinds, some_kinds, turnings,
)

ALL_OF_ORDER = [(0, 0, 0), (0, 1, 0), (0, 1, 1), (1, 0, 0), (1, 0, 1), (1, 1, 1)]


class Kinds(Case):
    def test_attributes(self):
        kind = Kind([1, 0], list(reversed(ALL_OF_ORDER)) + [(0, 0, 0)])
        self.assertEqual((kind.relations, kind.turned, kind.triples), (2, (1, 0), tuple(ALL_OF_ORDER)))
        self.assertIs(type(kind.turned), tuple)
        self.assertIs(type(kind.triples), tuple)
        self.assertEqual(Kind((0,), ()).triples, ())

    def test_arguments_by_name_and_kept_as_they_are(self):
        turned, triples = [1, 0], list(reversed(ALL_OF_ORDER))
        kind = Kind(triples=triples, turned=turned)
        self.assertEqual((turned, triples), ([1, 0], list(reversed(ALL_OF_ORDER))))
        turned[0] = 0
        triples.clear()
        self.assertEqual((kind.turned, kind.triples), ((1, 0), tuple(ALL_OF_ORDER)))
        self.assertEqual(together(kind=kind, x=0, y=1), (0, 1))
        self.assertTrue(is_allowed(kind=kind, x=0, y=0, z=0))
        self.assertEqual(readings(turned=(1, 0), triple=(0, 0, 0)), ((0, 0, 0), (0, 1, 0), (0, 1, 1), (1, 0, 0),
                                                                     (1, 0, 1), (1, 1, 1)))
        self.assertEqual(renamed(kind=kind, names=[1, 0]), kind)
        self.assertEqual(likeness(one=kind, other=kind), (0, 1))
        self.assertEqual(symmetries(kind=kind), ((0, 1), (1, 0)))

    def test_equal(self):
        self.assertEqual(Kind((1, 0), ALL_OF_ORDER), Kind([1, 0], tuple(reversed(ALL_OF_ORDER))))
        self.assertFalse(Kind((1, 0), ALL_OF_ORDER) != Kind((1, 0), ALL_OF_ORDER))
        self.assertNotEqual(Kind((0, 1), []), Kind((1, 0), []))
        self.assertNotEqual(Kind((0, 1), []), Kind((0, 1), [(0, 0, 0)]))
        for value in ODD_VALUES + [((0,), ()), EqualToAll()]:
            self.assertIs(Kind((0,), []) == value, False)

    def test_turned_refused(self):
        for value in ODD_VALUES:
            if not isinstance(value, (list, tuple)) or len(value) == 0:
                self.refused(InvalidKind, 0, Kind, value, [])
        for turned, at in [
            ((1,), 0), ((-1,), 0), ((True,), 0), ((0.0,), 0), (("0",), 0), ((None,), 0), (([0],), 0),
            ((0, 2), 1), ((0, True), 1), ((0, 1.0), 1), ((1, 1), 0), ((1, 2, 0), 0), ((0, 2, 2), 1), ((1, 0, 3), 2),
            ((1, False), 0), ((False, 1), 0), ((1, 0.0), 0), ((1, None), 0), ((0, 1, 3, 2, 5, 5), 4),
            ((0, EqualToAll()), 1), ((1, EqualToAll()), 0),
        ]:
            self.refused(InvalidKind, at, Kind, turned, [])
            self.refused(InvalidKind, at, Kind, list(turned), None)

    def test_triples_refused(self):
        for value in ODD_VALUES:
            if not isinstance(value, (list, tuple)):
                self.refused(InvalidKind, 2, Kind, (0, 1), value)
            if value != (0, 0, 0):
                self.refused(InvalidKind, 3, Kind, (0, 1), [(0, 0, 0), value])
        for wrong in [[0, 0, 0], (0, 0), (0, 0, 0, 0), (0, 0, 2), (0, 0, -1), (0, 0, True), (0.0, 0, 0), (0, None, 0),
                      ([0], 0, 0), "000", 0]:
            self.refused(InvalidKind, 2 + 1, Kind, (0, 1), [(1, 1, 1), wrong, None])
            self.refused(InvalidKind, 2 + 0, Kind, (0, 1), (wrong, (1, 1, 1)))

    def test_lacking_readings_refused(self):
        self.refused(InvalidKind, 2, Kind, (1, 0), [(0, 0, 0)])
        self.refused(InvalidKind, 2 + 1, Kind, (0, 1), [(0, 0, 0), (0, 0, 1), (0, 1, 0)])
        # What is no triple is told ahead of lacking readings, wherever it stands.
        self.refused(InvalidKind, 2 + 2, Kind, (0, 1), [(0, 0, 1), (0, 1, 0), (0, 1)])
        for triple in ALL_OF_ORDER:
            lacking = [other for other in ALL_OF_ORDER if other != triple]
            self.refused(InvalidKind, 2, Kind, (1, 0), lacking)

    def test_all_groups_of_readings_are_kinds(self):
        self.assertEqual(sum(1 for _ in all_kinds(1)), 2)
        self.assertEqual(sum(1 for _ in all_kinds(2)), 2 ** 4 + 2 ** 2)


class Readings(Case):
    def test_readings(self):
        for many in range(1, 5):
            for turned in turnings(many):
                for triple in product(range(many), repeat=3):
                    told = readings(turned, triple)
                    self.assertEqual(told, tuple(sorted(six_readings(turned, triple))))
                    self.all_tuples(told)
        self.assertEqual(readings([0], (0, 0, 0)), ((0, 0, 0),))

    def test_together_and_is_allowed(self):
        for kind in small_kinds() + [sector_kind(6), distance_kind((1, 2, 4, 8, 9, 11))]:
            allowed = set(kind.triples)
            for x, y in product(range(kind.relations), repeat=2):
                lot = tuple(z for z in range(kind.relations) if (x, y, z) in allowed)
                self.assertEqual(together(kind, x, y), lot)
                self.assertIs(type(together(kind, x, y)), tuple)
                for z in range(kind.relations):
                    self.assertIs(is_allowed(kind, x, y, z), (x, y, z) in allowed)

    def test_facts(self):
        for kind in small_kinds() + list(some_kinds(4, 10, 4)):
            back = kind.turned
            for x, y, z in product(range(kind.relations), repeat=3):
                there = z in together(kind, x, y)
                self.assertEqual(there, y in together(kind, back[x], z))
                self.assertEqual(there, back[z] in together(kind, back[y], back[x]))

    def test_example(self):
        self.assertEqual(
            (together(distance_kind((1, 2, 4)), 0, 1), together(sector_kind(3), 1, 1), together(order_kind(), 0, 0)),
            ((0, 1), (0, 2), (0,)),
        )


class Renamed(Case):
    def test_renamed(self):
        for kind in small_kinds():
            for names in permutations(range(kind.relations)):
                other = renamed(kind, list(names))
                self.assertEqual(other.relations, kind.relations)
                for x, y, z in product(range(kind.relations), repeat=3):
                    self.assertEqual(other.turned[names[x]], names[kind.turned[x]])
                    self.assertEqual(is_allowed(other, names[x], names[y], names[z]), is_allowed(kind, x, y, z))

    def test_names_refused(self):
        kind = free_kind(3)
        for value in ODD_VALUES:
            if not isinstance(value, (list, tuple)):
                self.refused(InvalidKind, 3, renamed, kind, value)
        for names, at in [
            ((), 3), ((0, 1), 3), ([2], 3), ((0, 1, 3), 2), ((0, 0), 1), ((1, 0, 1), 2), ((3,), 0), ((-1, 0, 0), 0),
            ((True, 0, 2), 0), ((0, 1, 2, 0), 3), ((0, 1, 2, 3), 3), ((0, 1, 2, None, 9), 3), ((0, "1"), 1),
            ((0, [1], 2), 1), ((0, 1.0, 2), 1), ((0, EqualToAll(), 2), 1),
        ]:
            self.refused(InvalidKind, at, renamed, kind, names)
            self.refused(InvalidKind, at, renamed, kind, list(names))

    def test_likeness_and_symmetries(self):
        for kind in small_kinds():
            every = list(permutations(range(kind.relations)))
            symmetric = tuple(names for names in every if renamed(kind, names) == kind)
            self.assertEqual(symmetries(kind), symmetric)
            self.all_tuples(symmetries(kind))
            for names in every:
                other = renamed(kind, names)
                first = next(again for again in every if renamed(kind, again) == other)
                self.assertEqual(likeness(kind, other), first)
                self.assertIs(type(likeness(kind, other)), tuple)

    def test_unlike(self):
        self.assertIsNone(likeness(free_kind(2), free_kind(3)))
        self.assertIsNone(likeness(Kind((0,), []), Kind((0, 1), [])))
        self.assertIsNone(likeness(Kind((0, 1), []), Kind((0,), [])))
        self.assertIsNone(likeness(free_kind(2), level_kind(2)))
        self.assertIsNone(likeness(Kind((0, 1), []), Kind((1, 0), [])))
        one, other = Kind((0, 1), [(0, 0, 0)]), Kind((0, 1), [(1, 1, 1)])
        self.assertEqual(likeness(one, other), (1, 0))
        # As many triples, but other ones.
        groups = reading_groups((0, 1))
        three = [group for group in groups if len(group) == 3]
        self.assertIsNone(likeness(Kind((0, 1), three[0]), Kind((0, 1), three[0] + [(0, 0, 0)])))
        self.assertIsNone(likeness(Kind((0, 1), three[0] + [(0, 0, 0)]), Kind((0, 1), three[0] + [(1, 1, 1)])))

    def test_count_of_renamed(self):
        for kind in small_kinds() + [sum_kind(4), sector_kind(4)]:
            renames = []
            for names in permutations(range(kind.relations)):
                other = renamed(kind, names)
                if other not in renames:
                    renames.append(other)
            self.assertEqual(len(renames) * len(symmetries(kind)), factorial(kind.relations))

    def test_six_relations(self):
        kind = sum_kind(6)
        names = (3, 1, 5, 0, 2, 4)
        self.assertEqual(renamed(kind, likeness(kind, renamed(kind, names))), renamed(kind, names))
        self.assertEqual(symmetries(kind), ((0, 1, 2, 3, 4, 5), (0, 5, 4, 3, 2, 1)))
        self.assertEqual(len(symmetries(free_kind(6))), 720)


if __name__ == "__main__":
    unittest.main()
