"""[40], [41], [44]: bounded sums, sets of distances that glue, their reach."""

import random
import unittest
from itertools import combinations, product

from ringsdecide.built import distance_kind
from ringsdecide.distances import (
    bounded_sum, bracket_fault, distance_fault, distance_reach, gluing_sets, least_sums,
)
from ringsdecide.errors import InvalidKind, InvalidQuestion, NotDeciding
from ringsdecide.gluing import glues, glues_over, is_gluing_fault
from ringsdecide.meeting import decides, meets
from ringsdecide.reaching import reach
from tests.helpers import ODD_VALUES, Case, EqualToAll, slow_ends

NO_NUMBERS = [
    ([1, 2], 0), ((), 0), ((0, 1), 0), ((True, 2), 0), ((1, True), 1), ((1, 1), 1), ((2, 1), 1), ((1, 2.0), 1),
    ((1, 2, 2), 2), ((1, 2, 3, 4, 5, 6, 7), 6), ((1, 2, 3, 4, 5, 6, 7, 7), 7), ((1, EqualToAll()), 1),
    (((1, 2),), 0), ("12", 0), (None, 0), ({1: 1}, 0), (range(1, 3), 0), (5, 0), (EqualToAll(), 0), ((-1, 2), 0),
]


def number_sets():
    """Ascending tuples of one to six numbers: all small ones of one to three, and some more."""
    for size in (1, 2, 3):
        yield from combinations(range(1, 8), size)
    chance = random.Random(40)
    for _ in range(60):
        size = chance.randrange(3, 7)
        yield tuple(sorted(chance.sample(range(1, chance.choice((8, 12, 40))), size)))
    yield from [(1, 2, 3, 4), (1, 2, 3, 4, 5), (2, 4, 6, 8, 10), (1, 2, 3, 4, 5, 6), (3, 4, 5, 6, 7, 8)]
    yield from [(1, 10 ** 30), (10 ** 30, 10 ** 30 + 1, 3 * 10 ** 30)]


def slow_sum(numbers, row):
    """The bounded sum by the words of the document."""
    if len(row) == 1:
        return row[0]
    total = slow_sum(numbers, row[:-1]) + row[-1]
    return max(number for number in numbers if number <= total)


class BoundedSums(Case):
    def test_bounded_sum(self):
        for numbers in number_sets():
            chance = random.Random(len(numbers))
            rows = list(product(numbers, repeat=2))
            rows += [(number,) for number in numbers]
            rows += [tuple(chance.choices(numbers, k=chance.randrange(3, 12))) for _ in range(10)]
            for row in rows:
                total = slow_sum(numbers, row)
                self.assertEqual(bounded_sum(numbers=numbers, row=row), total)
                self.assertEqual(bounded_sum(numbers, list(row)), total)
                self.assertIs(type(total), int)

    def test_known_ones(self):
        self.assertEqual(bounded_sum((1, 3), (1, 1)), 1)
        self.assertEqual(bounded_sum((1, 3), (1, 1, 1, 3)), 3)
        self.assertEqual(bounded_sum((1, 2, 4), (1, 1, 2)), 4)
        self.assertEqual(bounded_sum((1, 2, 4), (1, 2, 1)), 2)
        self.assertEqual(bounded_sum((7,), (7, 7, 7)), 7)
        self.assertEqual(bounded_sum((1, 2, 100, 10 ** 30), (2, 1, 100)), 100)
        self.assertEqual(bounded_sum((1, 2, 3, 4, 5, 6), (6, 1)), 6)

    def test_rows_of_hundreds(self):
        self.assertEqual(self.soon(bounded_sum, (1, 500), (1,) * 999), 1)
        self.assertEqual(self.soon(bounded_sum, (2, 3, 5), [2] * 999), 5)
        self.assertEqual(self.soon(bounded_sum, (1, 2, 3, 4, 5, 600), [1, 2] * 450), 5)

    def test_rows_refused(self):
        numbers = (1, 2, 4)
        for value in ODD_VALUES:
            if type(value) not in (list, tuple) or not value:
                self.refused(InvalidQuestion, 0, bounded_sum, numbers, value)
            if value != 7:
                self.refused(InvalidQuestion, 2, bounded_sum, numbers, [1, 4, value, None])
        for row, at in [((), 0), ([], 0), ((3,), 0), ((1, 3), 1), ((1, 0), 1), ((True,), 0), ((2, True), 1),
                        ((1.0,), 0), ((1, 2, 4, 8), 3), ((1, "1"), 1), ((1, [2]), 1), ((1, (2,)), 1), ((-1,), 0),
                        ((1, EqualToAll()), 1), ("1", 0), (1, 0), ({1}, 0), ({1: 1}, 0), (range(1, 3), 0),
                        (EqualToAll(), 0), ((5, 6), 0), ((1, 7), 1)]:
            self.refused(InvalidQuestion, at, bounded_sum, numbers, row)

    def test_numbers_refused_first(self):
        for numbers, at in NO_NUMBERS:
            self.refused(InvalidKind, at, bounded_sum, numbers, None)
            self.refused(InvalidKind, at, bounded_sum, numbers, (1,))
        for value in ODD_VALUES:
            if not isinstance(value, tuple) or value in ((), (None,), (True,), (0,), ((),)):
                self.refused(InvalidKind, 0, bounded_sum, value, (1,))

    def test_arguments_stay(self):
        row = [1, 2, 1]
        bounded_sum((1, 2, 4), row)
        self.assertEqual(row, [1, 2, 1])

    def test_it_grows(self):
        for numbers in [(1, 2, 4), (1, 3), (2, 3, 5), (1, 2, 3, 4), (2, 5, 6, 11)]:
            for row in product(numbers, repeat=3):
                total = bounded_sum(numbers, row)
                self.assertGreaterEqual(total, max(row))
                for at, number in enumerate(row):
                    for more in numbers:
                        if more > number:
                            self.assertGreaterEqual(bounded_sum(numbers, row[:at] + (more,) + row[at + 1:]), total)

    def test_ends(self):
        for numbers in number_sets():
            kind = distance_kind(numbers)
            many = len(numbers)
            words = list(product(range(many), repeat=3)) if many < 4 else []
            chance = random.Random(many)
            words += [tuple(chance.choices(range(many), k=chance.randrange(1, 8))) for _ in range(10)]
            for word in words:
                lot = sorted(slow_ends(kind, word))
                last = numbers.index(bounded_sum(numbers, [numbers[x] for x in word]))
                self.assertEqual(lot, list(range(lot[0], last + 1)))
                self.assertIn(max(word), lot)

    def test_such_kinds_meet(self):
        for numbers in number_sets():
            self.assertIs(meets(distance_kind(numbers)), True)


class SetsThatGlue(Case):
    def test_bracket_fault(self):
        faults = 0
        for numbers in number_sets():
            wanted = None
            for a, b, c in product(numbers, repeat=3):
                if slow_sum(numbers, (a, b, c)) != slow_sum(numbers, (a, slow_sum(numbers, (b, c)))):
                    wanted = (a, b, c)
                    break
            told = bracket_fault(numbers=numbers)
            self.assertEqual(told, wanted)
            faults += told is not None
        self.assertGreater(faults, 20)

    def test_both_tell_whether_the_kind_glues(self):
        many = {True: 0, False: 0}
        for numbers in number_sets():
            kind = distance_kind(numbers)
            fault = distance_fault(numbers=numbers)
            self.assertIs(fault is None, bracket_fault(numbers) is None)
            many[fault is None] += 1
            if fault is not None:
                self.all_tuples(fault)
                self.assertEqual(len(fault[0]), 2)
                self.assertIs(is_gluing_fault(kind, fault), True)
            if len(numbers) < 6:
                self.assertIs(glues(kind), fault is None)
                self.assertIs(decides(kind), fault is None)
                self.assertIs(glues_over(kind, 2), fault is None)
        self.assertTrue(many[True] > 20 and many[False] > 20, many)

    def test_gluing_sets(self):
        for most in range(1, 8):
            for size in (1, 2, 3, 4):
                told = gluing_sets(most=most, size=size)
                self.all_tuples(told)
                wanted = tuple(
                    numbers for numbers in combinations(range(1, most + 1), size) if glues(distance_kind(numbers))
                )
                self.assertEqual(told, wanted)
        self.assertEqual(gluing_sets(3, 4), ())
        self.assertEqual(gluing_sets(2, 1), ((1,), (2,)))
        for size in (1, 2, 3, 4):
            self.soon(gluing_sets, 10, size)
        self.assertIn((1, 2, 3, 4), gluing_sets(10, 4))
        self.assertNotIn((1, 2, 4), gluing_sets(10, 3))

    def test_numbers_refused(self):
        for numbers, at in NO_NUMBERS:
            for function in (bracket_fault, distance_fault, least_sums, distance_reach):
                self.refused(InvalidKind, at, function, numbers)
        for value in ODD_VALUES:
            if not isinstance(value, tuple) or value in ((), (None,), (True,), (0,), ((),)):
                for function in (bracket_fault, distance_fault, least_sums, distance_reach):
                    self.refused(InvalidKind, 0, function, value)


class Reaches(Case):
    def test_least_sums(self):
        for numbers in number_sets():
            wanted = [numbers[0]]
            while slow_sum(numbers, (numbers[0],) * (len(wanted) + 1)) > wanted[-1]:
                wanted.append(slow_sum(numbers, (numbers[0],) * (len(wanted) + 1)))
            self.assertEqual(least_sums(numbers=numbers), tuple(wanted))

    def test_it_is_the_reach(self):
        found = {}
        for numbers in number_sets():
            if bracket_fault(numbers) is not None:
                self.refused(NotDeciding, 0, distance_reach, numbers)
            elif len(numbers) < 6:
                told = distance_reach(numbers=numbers)
                self.assertEqual(told, reach(distance_kind(numbers)))
                found[told] = found.get(told, 0) + 1
        self.assertLessEqual({None, 2, 3, 4, 5}, set(found))

    def test_known_ones(self):
        self.assertEqual([distance_reach(tuple(range(1, many + 1))) for many in range(1, 7)], [2, 2, 3, 4, 5, 6])
        self.assertEqual(distance_reach((9,)), 2)
        self.assertIs(distance_reach((1, 3)), None)
        self.assertEqual(least_sums((9,)), (9,))
        self.assertEqual(least_sums((2, 3, 5)), (2, 3, 5))
        self.refused(NotDeciding, 0, distance_reach, (1, 2, 4, 8, 16, 32))

    def test_examples(self):
        self.assertEqual(
            (bracket_fault((1, 2, 4)), bracket_fault((1, 2, 3)), distance_reach((2, 3, 5)), least_sums((1, 3))),
            ((1, 1, 2), None, 3, (1,)),
        )


if __name__ == "__main__":
    unittest.main()
