"""Searches through cells: what they cut away, and which places may be exchanged."""

import unittest

from ringsdecide.bits import Joins, all_bits, bits_of, joined_bits, lot_of
from ringsdecide.built import barred_kind, free_kind, order_kind
from ringsdecide.cells import (
    first_fitting, first_open, is_exchange_less, is_exchanged_first, open_cells, tell, tightened, twin_pairs,
)
from tests.helpers import all_but_threes, small_kinds


class Bits(unittest.TestCase):
    def test_lots_and_bits(self):
        for bits in range(64):
            self.assertEqual(bits_of(lot_of(bits)), bits)
        self.assertEqual(lot_of(37), (0, 2, 5))
        self.assertEqual(all_bits(free_kind(3)), 7)

    def test_joins(self):
        for kind in small_kinds():
            joins = Joins(kind)
            for one in range(1 << kind.relations):
                for other in range(1 << kind.relations):
                    self.assertEqual(joins.of(one, other), joined_bits(kind, one, other))
                    self.assertEqual(joins.of(one, other), joined_bits(kind, one, other))


class Cells(unittest.TestCase):
    def test_tightened(self):
        kind = order_kind()
        cells = open_cells(kind, 3)
        tell(kind, cells, 0, 1, 0)
        tell(kind, cells, 1, 2, 0)
        self.assertIs(tightened(Joins(kind), cells, [(0, 1)]), True)
        self.assertEqual((cells[0][2], cells[2][0]), (1, 2))
        tell(kind, cells, 2, 0, 0)
        self.assertIs(tightened(Joins(kind), cells, [(2, 0)]), False)

    def test_nothing_left_from_the_first(self):
        cells = open_cells(order_kind(), 2)
        cells[0][1] = cells[1][0] = 0
        self.assertIsNone(first_fitting(Joins(order_kind()), cells))

    def test_cells_stay(self):
        kind = all_but_threes(2)
        cells = open_cells(kind, 4)
        first_fitting(Joins(kind), cells)
        self.assertEqual(cells, open_cells(kind, 4))
        self.assertEqual(first_open(cells), (0, 1))

    def test_twins(self):
        kind = order_kind()
        cells = open_cells(kind, 4)
        self.assertEqual(twin_pairs(cells), [(0, 1), (1, 2), (2, 3)])
        tell(kind, cells, 1, 3, 0)
        self.assertEqual(twin_pairs(cells), [(0, 2)])
        tell(kind, cells, 1, 0, 0)
        self.assertEqual(twin_pairs(cells), [(0, 3)])
        kind = free_kind(2)
        cells = open_cells(kind, 3)
        tell(kind, cells, 0, 2, 1)
        self.assertEqual(twin_pairs(cells), [(0, 2)])
        tell(kind, cells, 1, 2, 1)
        self.assertEqual(twin_pairs(cells), [(0, 1)])

    def test_exchange(self):
        kind = free_kind(3)
        cells = open_cells(kind, 5)
        self.assertIs(is_exchange_less(cells, 2, 3), False)
        tell(kind, cells, 0, 2, 1)
        self.assertIs(is_exchange_less(cells, 2, 3), False)
        tell(kind, cells, 0, 3, 0)
        self.assertIs(is_exchange_less(cells, 2, 3), True)
        self.assertIs(is_exchange_less(cells, 3, 2), False)
        tell(kind, cells, 0, 3, 1)
        tell(kind, cells, 1, 2, 2)
        self.assertIs(is_exchange_less(cells, 2, 3), False)
        tell(kind, cells, 1, 3, 1)
        self.assertIs(is_exchange_less(cells, 2, 3), True)
        cells[0][2] = 5
        cells[0][3] = 2
        self.assertIs(is_exchange_less(cells, 2, 3), False)

    def test_exchanged_first(self):
        cells = open_cells(free_kind(3), 4)
        tell(free_kind(3), cells, 0, 2, 1)
        tell(free_kind(3), cells, 0, 3, 0)
        self.assertIs(is_exchanged_first(cells, [(0, 1), (1, 2)]), False)
        self.assertIs(is_exchanged_first(cells, [(0, 1), (2, 3), (1, 2)]), True)

    def test_few_tries(self):
        # Nothing is told, so that all orders of the eight places are alike; far more joins would be looked up.
        joins = Counting(barred_kind((3, 2, 1, 0), [(0, 0, 0), (0, 0, 1), (1, 1, 1), (1, 1, 2)]))
        self.assertIsNone(first_fitting(joins, open_cells(joins.kind, 8)))
        self.assertLess(joins.asked, 10 ** 6)


class Counting(Joins):
    """Joins that count how often they are asked, and stop an endless search."""

    def __init__(self, kind):
        super().__init__(kind)
        self.asked = 0

    def of(self, one, other):
        self.asked += 1
        if self.asked > 10 ** 6:
            raise AssertionError("too many tries")
        return super().of(one, other)


if __name__ == "__main__":
    unittest.main()
