"""The helper of triangles and clocks: rows of integers in diagonal form."""

import random
import unittest
from itertools import product
from math import gcd

from ringsdecide.diagonal import Diagonal, inverse


def some_rows(chance, rows, columns):
    """Rows of small integers, as lists."""
    return [[chance.choice((0, 0, 1, -1, 2, -3, 4, 6)) for _ in range(columns)] for _ in range(rows)]


def dicts(rows):
    return [{at: entry for at, entry in enumerate(row) if entry} for row in rows]


class Diagonals(unittest.TestCase):
    def test_inverse(self):
        for modulus in range(1, 30):
            for number in range(-40, 40):
                if gcd(number, modulus) == 1:
                    self.assertEqual(inverse(number, modulus) * number % modulus, 1 % modulus)
                    self.assertIn(inverse(number, modulus), range(modulus))

    def test_multiples_and_weights(self):
        chance = random.Random(1)
        found = {True: 0, False: 0}
        for _ in range(150):
            columns = chance.randrange(1, 4)
            rows = some_rows(chance, chance.randrange(4), columns)
            form = Diagonal(dicts(rows))
            for modulus in range(1, 7):
                sums = set()
                for times in product(range(modulus), repeat=len(rows)):
                    sums.add(tuple(sum(t * row[at] for t, row in zip(times, rows)) % modulus
                                   for at in range(columns)))
                for wanted in product(range(modulus), repeat=columns):
                    row = {at: entry for at, entry in enumerate(wanted) if entry}
                    told = form.multiples(modulus, row)
                    column = form.column_against(modulus, row)
                    self.assertIs(told is not None, wanted in sums)
                    self.assertIs(column is None, wanted in sums)
                    found[wanted in sums] += 1
                    if told is not None:
                        self.assertEqual(len(told), len(rows))
                        for at in range(columns):
                            total = sum(t * each[at] for t, each in zip(told, rows))
                            self.assertEqual((total - wanted[at]) % modulus, 0)
                        continue
                    weights = form.weights(modulus, column)
                    for each in rows:
                        self.assertEqual(sum(each[at] * weights.get(at, 0) for at in range(columns)) % modulus, 0)
                    self.assertNotEqual(sum(wanted[at] * weights.get(at, 0) for at in range(columns)) % modulus, 0)
        self.assertTrue(min(found.values()) > 1000, found)

    def test_large_moduli(self):
        chance = random.Random(3)
        for _ in range(400):
            columns = chance.randrange(1, 6)
            rows = some_rows(chance, chance.randrange(6), columns)
            form = Diagonal(dicts(rows))
            modulus = chance.choice((1, 10, 12, 30, 48, 210, 720720, 999983, 10 ** 6))
            wanted = [0] * columns
            for row in rows:
                times = chance.randrange(modulus)
                wanted = [x + times * y + modulus * chance.randrange(-2, 3) for x, y in zip(wanted, row)]
            told = form.multiples(modulus, dict(enumerate(wanted)))
            self.assertIs(form.column_against(modulus, dict(enumerate(wanted))), None)
            for at in range(columns):
                total = sum(t * each[at] for t, each in zip(told, rows))
                self.assertEqual((total - wanted[at]) % modulus, 0)
            for number in told:
                self.assertIn(number, range(modulus))

    def test_orders(self):
        chance = random.Random(2)
        for _ in range(100):
            columns = chance.randrange(1, 4)
            rows = some_rows(chance, chance.randrange(5), columns)
            form = Diagonal(dicts(rows))
            for modulus in range(1, 9):
                fits = sum(
                    all(sum(x * y for x, y in zip(row, weights)) % modulus == 0 for row in rows)
                    for weights in product(range(modulus), repeat=columns)
                )
                told = 1
                for column in range(columns):
                    told *= gcd(form.order(column), modulus)
                self.assertEqual(told, fits)

    def test_rows_stay(self):
        rows = [{0: 2, 1: 3}, {0: 4}]
        Diagonal(rows)
        self.assertEqual(rows, [{0: 2, 1: 3}, {0: 4}])
        self.assertEqual(Diagonal([]).multiples(3, {}), [])


if __name__ == "__main__":
    unittest.main()
