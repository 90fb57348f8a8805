"""[12], [13]: kinds that glue, and two networks made one."""

import unittest
from itertools import product

from ringsdecide.built import (
    barred_kind, distance_kind, free_kind, level_kind, order_kind, sector_kind, sum_kind,
)
from ringsdecide.errors import NotDeciding, Refused
from ringsdecide.fullnets import common_lot, extensions, full_networks, is_full
from ringsdecide.gluing import can_glue, glue, glues, glues_over, gluing_fault, is_gluing_fault
from ringsdecide.kinds import Kind, together
from tests.helpers import (
    ODD_VALUES, Case, all_but_threes, all_kinds, slow_common_lot, slow_extensions, slow_full_networks, slow_glues_over,
    small_kinds, some_kinds,
)

PLAIN = Kind((0, 1), [(0, 0, 1), (0, 1, 0), (1, 0, 0), (0, 1, 1), (1, 0, 1), (1, 1, 0)])
GLUING = [free_kind(5), order_kind(), level_kind(4), distance_kind((1, 2, 3)), sum_kind(5), sector_kind(3)]


def holds_both(rows, one, other, shared):
    """Whether rows begin with the one network, and have the other one in its places."""
    places = list(range(shared)) + list(range(len(one), len(rows)))
    return (
        len(rows) == len(one) + len(other) - shared
        and tuple(row[:len(one)] for row in rows[:len(one)]) == one
        and tuple(tuple(rows[u][v] for v in places) for u in places) == other
    )


class Gluing(Case):
    def test_glues_over(self):
        for kind in small_kinds():
            for places in range(5 if kind.relations < 3 else 4):
                self.assertIs(glues_over(kind=kind, places=places), slow_glues_over(kind, places))

    def test_four_places(self):
        for kind in [sum_kind(3), level_kind(2), order_kind(), sum_kind(4), distance_kind((1, 3))]:
            self.assertIs(glues_over(kind, 4), slow_glues_over(kind, 4))
        for kind in some_kinds(3, 10, 6):
            if len(slow_full_networks(kind, 4)) < 200:
                self.assertIs(glues_over(kind, 4), slow_glues_over(kind, 4))

    def test_glues(self):
        for kind in small_kinds():
            self.assertIs(glues(kind=kind), all(glues_over(kind, places) for places in range(kind.relations + 1)))
        for kind in GLUING:
            self.assertIs(glues(kind), True)
        for kind in [Kind((0,), []), PLAIN, distance_kind((1, 2, 4)), all_but_threes(4)]:
            self.assertIs(glues(kind), False)

    def test_faults(self):
        for kind in small_kinds() + list(some_kinds(4, 60, 9)) + list(some_kinds(5, 60, 10)) + GLUING:
            fault = gluing_fault(kind=kind)
            self.assertIs(fault is None, glues(kind))
            if fault is not None:
                self.all_tuples(fault)
                rows, one, other = fault
                self.assertLessEqual(len(rows), kind.relations)
                self.assertIs(is_full(kind, rows), True)
                self.assertIn(one, extensions(kind, rows))
                self.assertIn(other, extensions(kind, rows))
                self.assertEqual(common_lot(kind, one, other), ())
                self.assertIs(is_gluing_fault(kind=kind, value=fault), True)

    def test_all_over_fewer_but_not_over_m(self):
        for many in range(2, 6):
            kind = all_but_threes(many)
            for places in range(min(many, 5)):
                self.assertIs(glues_over(kind, places), True)
            if many < 5:
                self.assertIs(glues_over(kind, many), False)
            self.assertEqual(len(gluing_fault(kind)[0]), many)

    def test_no_place_and_one_and_two(self):
        for kind in small_kinds() + list(some_kinds(4, 20, 12)):
            relations = range(kind.relations)
            self.assertIs(glues_over(kind, 0), True)
            self.assertIs(glues_over(kind, 1), all(together(kind, x, y) for x in relations for y in relations))
            one_by_one = all(
                {t for s in together(kind, x, y) for t in together(kind, s, z)}
                == {t for s in together(kind, y, z) for t in together(kind, x, s)}
                for x in relations for y in relations for z in relations
            )
            self.assertIs(glues_over(kind, 2), one_by_one)

    def test_over_more_without_full_networks(self):
        # Nothing can go wrong over places that no full network has.
        kind = Kind((0, 1), [])
        self.assertEqual([glues_over(kind, places) for places in range(5)], [True, False, True, True, True])
        # No six places go with all_but_threes(2): the last ones that can go wrong are four places and two new ones.
        kind = all_but_threes(2)
        told = [glues_over(kind, places) for places in range(7)]
        self.assertEqual(told, [True, True, False, False, False, True, True])
        self.assertEqual(told[:6], [slow_glues_over(kind, places) for places in range(6)])

    def test_is_gluing_fault_with_more_places(self):
        kind = all_but_threes(2)
        found = 0
        for places in range(6):
            for rows in full_networks(kind, places):
                for one, other in product(extensions(kind, rows), repeat=2):
                    wrong = common_lot(kind, one, other) == ()
                    self.assertIs(is_gluing_fault(kind, (rows, one, other)), wrong)
                    found += wrong and places > 2
        self.assertGreater(found, 0)

    def test_is_gluing_fault_wants_extensions(self):
        for kind in [PLAIN, barred_kind((1, 0), [(0, 0, 1)]), barred_kind((0, 1), [(0, 0, 1)])]:
            found = 0
            for places in range(4):
                rows_like = list(product(range(2), repeat=places))
                for rows in full_networks(kind, places):
                    good = slow_extensions(kind, rows)
                    for one, other in product(rows_like, repeat=2):
                        wrong = one in good and other in good and slow_common_lot(kind, one, other) == ()
                        self.assertIs(is_gluing_fault(kind, (rows, one, other)), wrong)
                        found += slow_common_lot(kind, one, other) == () and not wrong
            self.assertGreater(found, 0)

    def test_is_gluing_fault_of_any_value(self):
        rows, one, other = gluing_fault(PLAIN)
        self.assertIs(is_gluing_fault(PLAIN, (rows, one, other)), True)
        for value in ODD_VALUES:
            self.assertIs(is_gluing_fault(PLAIN, value), False)
            self.assertIs(is_gluing_fault(PLAIN, (value, one, other)), False)
            self.assertIs(is_gluing_fault(PLAIN, (rows, value, other)), False)
            self.assertIs(is_gluing_fault(PLAIN, (rows, one, value)), False)
        for value in [
            [rows, one, other], (rows, one), (rows, one, other, other), (rows, list(one), other),
            (rows, one, list(other)), (list(rows), one, other), (rows, one[:1], other[:1]), (rows, one, one[::-1]),
            (rows, one + (0,), other + (0,)), ((), (), ()), (rows, (True,) + one[1:], other), (rows, one, (2, 2)),
        ]:
            self.assertIs(is_gluing_fault(PLAIN, value), False, value)

    def test_example(self):
        self.assertEqual((glues(PLAIN), glues_over(PLAIN, 1), common_lot(PLAIN, (0, 1), (0, 1))), (False, True, ()))


class MadeOne(Case):
    def some_pairs(self, kind, most):
        """Some two full networks that agree on their first places, with how many of these."""
        found = []
        for sizes in product(range(most + 1), repeat=2):
            for shared in range(min(sizes) + 1):
                ones, others = full_networks(kind, sizes[0]), full_networks(kind, sizes[1])
                for at, one in enumerate(ones[::5]):
                    fits = [other for other in others
                            if [row[:shared] for row in one[:shared]] == [row[:shared] for row in other[:shared]]]
                    found.extend((one, other, shared) for other in fits[at % 3::7])
        return found

    def test_glue(self):
        for kind in GLUING[1:]:
            for one, other, shared in self.some_pairs(kind, 3):
                rows = glue(kind=kind, one=one, other=other, shared=shared)
                self.assertIs(is_full(kind, rows), True)
                self.assertTrue(holds_both(rows, one, other, shared))
                self.assertIs(can_glue(kind=kind, one=one, other=other, shared=shared), True)

    def test_glue_of_small_ones(self):
        kind = order_kind()
        self.assertEqual(glue(kind, (), (), 0), ())
        self.assertEqual(glue(kind, (), ((None,),), 0), ((None,),))
        self.assertEqual(glue(kind, ((None,),), ((None,),), 1), ((None,),))
        self.assertTrue(holds_both(glue(kind, ((None,),), ((None,),), 0), ((None,),), ((None,),), 0))

    def test_glue_of_great_ones(self):
        kind = order_kind()

        def row(order):
            return tuple(tuple(None if u == v else int(u > v) for v in order) for u in order)

        one = row(range(40))
        other = row([3, 30, 17] + list(range(40, 77)))
        self.refused(Refused, 0, glue, kind, one, other, 3)
        one = row([3, 30, 17] + [k for k in range(40) if k not in (3, 30, 17)])
        rows = glue(kind, one, other, 3)
        self.assertIs(is_full(kind, rows), True)
        self.assertTrue(holds_both(rows, one, other, 3))

    def test_can_glue_is_tried_out(self):
        for kind in list(some_kinds(2, 12, 20)) + list(all_kinds(2))[::4] + list(some_kinds(3, 10, 21)):
            wholes = {places: slow_full_networks(kind, places) for places in range(5 if kind.relations < 3 else 4)}
            for one, other, shared in self.some_pairs(kind, 3):
                places = len(one) + len(other) - shared
                if places in wholes:
                    there = any(holds_both(rows, one, other, shared) for rows in wholes[places])
                    self.assertIs(can_glue(kind, one, other, shared), there)

    def test_six_places(self):
        kind = all_but_threes(2)
        rows = full_networks(kind, 3)
        # The two colours of a ring of five places go with no sixth one.
        self.assertEqual({can_glue(kind, one, other, 0) for one in rows for other in rows}, {False})
        self.assertIs(can_glue(all_but_threes(3), rows[0], rows[1], 0), True)
        self.assertIs(can_glue(kind, rows[0], rows[1], 2), True)
        self.assertIs(can_glue(kind, rows[0], rows[0], 2), False)

    def test_a_kind_glues_exactly_if_this_is_always_so(self):
        for kind in small_kinds() + list(some_kinds(4, 12, 23)):
            fault = gluing_fault(kind)
            if fault is None:
                always = all(can_glue(kind, *both) for both in self.some_pairs(kind, 2))
                self.assertTrue(always)
            else:
                rows, one, other = fault
                turned = kind.turned
                networks = [
                    tuple(row + (turned[x],) for row, x in zip(rows, new)) + (new + (None,),) for new in (one, other)
                ]
                self.assertIs(can_glue(kind, networks[0], networks[1], len(rows)), False)
                self.refused(NotDeciding, 0, glue, kind, networks[0], networks[1], len(rows))

    def test_refused(self):
        kind = order_kind()
        two, back = ((None, 0), (1, None)), ((None, 1), (0, None))
        for function in (glue, can_glue):
            for some in (kind, PLAIN):
                self.refused(Refused, 0, function, some, ((None,),), two, 2)
                self.refused(Refused, 0, function, some, two, ((None,),), 2)
                self.refused(Refused, 0, function, some, (), (), 1)
                self.refused(Refused, 0, function, some, two, two, 3)
            self.refused(Refused, 0, function, kind, two, back, 2)
            self.refused(Refused, 0, function, PLAIN, ((None, 0), (0, None)), ((None, 1), (1, None)), 2)
        self.refused(NotDeciding, 0, glue, PLAIN, (), (), 0)
        self.assertIs(can_glue(PLAIN, (), (), 0), True)
        self.assertEqual(glue(kind, two, back, 1)[0][:2], (None, 0))


if __name__ == "__main__":
    unittest.main()
