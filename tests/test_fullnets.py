"""[10], [11]: full networks in rows, and one place more."""

import unittest
from itertools import product

from ringsdecide.built import distance_kind, free_kind, level_kind, order_kind, sector_kind, sum_kind
from ringsdecide.fullnets import common_lot, extended, extensions, full_networks, is_full
from ringsdecide.kinds import Kind
from tests.helpers import (
    ODD_VALUES, Case, EqualToAll, slow_common_lot, slow_extensions, slow_full_networks, small_kinds, some_kinds,
    with_new_place,
)


def line_of_places(kind, places, relation):
    """Full rows in which each place has the relation to each later one."""
    back = kind.turned[relation]
    return tuple(
        tuple(None if u == v else relation if u < v else back for v in range(places)) for u in range(places)
    )


class InRows(Case):
    def test_full_networks(self):
        for kind in small_kinds():
            for places in range(5 if kind.relations < 3 else 4):
                told = full_networks(kind=kind, places=places)
                self.assertEqual(told, slow_full_networks(kind, places))
                self.all_tuples(told)

    def test_few_places(self):
        for kind in [free_kind(3), Kind((1, 0), []), order_kind()]:
            self.assertEqual(full_networks(kind, 0), ((),))
            self.assertEqual(full_networks(kind, 1), (((None,),),))
            self.assertEqual(len(full_networks(kind, 2)), kind.relations)
        self.assertEqual(full_networks(Kind((0, 1), []), 3), ())
        self.assertEqual(full_networks(order_kind(), 2), (((None, 0), (1, None)), ((None, 1), (0, None))))

    def test_known_counts(self):
        self.assertEqual(len(full_networks(order_kind(), 4)), 24)
        self.assertEqual(len(full_networks(sum_kind(6), 4)), 216)
        self.assertEqual(len(full_networks(free_kind(4), 4)), 4096)

    def test_is_full(self):
        for kind in small_kinds()[::3]:
            for places in range(4):
                for rows in full_networks(kind, places):
                    self.assertIs(is_full(kind=kind, value=rows), True)
        kind = free_kind(2)
        for relations in product(range(2), repeat=6):
            a, b, c, d, e, f = relations
            rows = ((None, a, b), (c, None, d), (e, f, None))
            self.assertIs(is_full(kind, rows), (a, b, d) == (c, e, f))

    def test_triples_are_asked_for(self):
        kind = order_kind()
        good = ((None, 0, 0), (1, None, 0), (1, 1, None))
        ring = ((None, 0, 1), (1, None, 0), (0, 1, None))
        self.assertIs(is_full(kind, good), True)
        self.assertIs(is_full(kind, ring), False)
        # Only the triangle of the last three places is barred.
        kind = Kind((0, 1), [t for t in product(range(2), repeat=3) if t != (1, 1, 1)])
        rows = ((None, 0, 0, 0), (0, None, 1, 1), (0, 1, None, 1), (0, 1, 1, None))
        self.assertIs(is_full(kind, rows), False)
        self.assertIs(is_full(free_kind(2), rows), True)

    def test_is_full_of_any_value(self):
        kind = order_kind()
        for value in ODD_VALUES:
            self.assertIs(is_full(kind, value), value in ((), ((None,),)) if type(value) is tuple else False)
            self.assertIs(is_full(kind, (value,)), type(value) is tuple and value == (None,))
            if value is not None:
                self.assertIs(is_full(kind, ((value,),)), False)
            if type(value) is not int:
                self.assertIs(is_full(kind, ((None, value), (1, None))), False)
                self.assertIs(is_full(kind, ((None, 0), (value, None))), False)
        for value in [
            [], [(None,)], ([None],), ((None, 0), [1, None]), [(None, 0), (1, None)], ((None, 0),), ((0,),),
            ((None, 0), (1,)), ((None, 0), (1, None, 0)), ((None, 0), (0, None)), ((None, 2), (1, None)),
            ((None, -1), (0, None)), ((None, False), (True, None)), ((None, 0), (True, None)), ((0, 0), (1, 1)),
            ((None, 0, 0), (1, None, 0), (1, 1)), ((None, None), (None, None)), ((False, 0), (1, None)),
            ((None, EqualToAll()), (1, None)), ((EqualToAll(), 0), (1, None)), ((None, 0.0), (1.0, None)),
        ]:
            self.assertIs(is_full(kind, value), False, value)

    def test_forty_places(self):
        rows = line_of_places(order_kind(), 40, 0)
        self.assertIs(is_full(order_kind(), rows), True)
        wrong = rows[:38] + (rows[38][:39] + (1,), rows[39][:38] + (0, None))
        self.assertIs(is_full(order_kind(), wrong), True)
        far = [list(row) for row in rows]
        far[0][39], far[39][0] = 1, 0
        self.assertIs(is_full(order_kind(), tuple(tuple(row) for row in far)), False)


class Extensions(Case):
    def test_extensions(self):
        for kind in small_kinds() + list(some_kinds(4, 6, 11)):
            for places in range(4):
                for rows in full_networks(kind, places)[::3]:
                    told = extensions(kind=kind, rows=rows)
                    self.assertEqual(told, slow_extensions(kind, rows))
                    self.all_tuples(told)

    def test_few_places(self):
        for kind in [free_kind(3), Kind((1, 0), [])]:
            self.assertEqual(extensions(kind, ()), ((),))
            self.assertEqual(extensions(kind, ((None,),)), tuple((x,) for x in range(kind.relations)))

    def test_extended(self):
        for kind in small_kinds():
            for places in range(3):
                for rows in full_networks(kind, places):
                    for extension in extensions(kind, rows):
                        more = extended(kind=kind, rows=rows, extension=extension)
                        self.assertEqual(more, with_new_place(kind, rows, extension))
                        self.assertIs(is_full(kind, more), True)
                        self.all_tuples(more)
        self.assertEqual(extended(order_kind(), ((None, 0), (1, None)), (0, 1)),
                         ((None, 0, 1), (1, None, 0), (0, 1, None)))

    def test_many_places(self):
        rows = line_of_places(order_kind(), 39, 0)
        told = extensions(order_kind(), rows)
        self.assertEqual(told, tuple((1,) * k + (0,) * (39 - k) for k in range(40)))
        self.assertEqual(len(extensions(free_kind(2), line_of_places(free_kind(2), 12, 0))), 4096)
        self.assertEqual(len(extensions(level_kind(5), line_of_places(level_kind(5), 39, 4))), 39 * 4 + 1)
        self.assertEqual(len(extensions(sum_kind(5), line_of_places(sum_kind(5), 39, 0))), 5)

    def test_common_lot(self):
        for kind in small_kinds() + [sector_kind(5)]:
            every = tuple(range(kind.relations))
            self.assertEqual(common_lot(kind, (), ()), every)
            for length in range(1, 3):
                for one in product(every, repeat=length):
                    for other in product(every, repeat=length):
                        told = common_lot(kind=kind, one=list(one), other=other)
                        self.assertEqual(told, slow_common_lot(kind, one, other))
                        self.assertIs(type(told), tuple)

    def test_common_lot_fact(self):
        for kind in list(some_kinds(2, 8, 1)) + list(some_kinds(3, 12, 2)) + [distance_kind((1, 2, 4))]:
            for places in range(3):
                for rows in full_networks(kind, places)[:6]:
                    found = extensions(kind, rows)
                    for one, other in product(found, repeat=2):
                        lot = common_lot(kind, one, other)
                        both = [x for x in range(kind.relations)
                                if other + (x,) in extensions(kind, extended(kind, rows, one))]
                        self.assertEqual(lot, tuple(sorted(kind.turned[x] for x in both)))


if __name__ == "__main__":
    unittest.main()
