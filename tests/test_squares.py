"""Reckoning with rows and columns: checked by other ways than those of the program."""

import copy
import unittest
from fractions import Fraction
from itertools import permutations, product
from math import prod
from random import Random

from tests.things import great_houses
from turnarrows.squares import determinant, doors_square, least_by, solved, stairs, turned_over


def by_orders(rows):
    """The determinant as the sum over all orders of columns."""
    told = 0
    for order in permutations(range(len(rows))):
        turns = sum(order[a] > order[b] for a in range(len(order)) for b in range(a + 1, len(order)))
        told += (-1) ** turns * prod(rows[at][column] for at, column in enumerate(order))
    return told


def drawn_squares(seed, many):
    draw = Random(seed)
    for _ in range(many):
        size = draw.randint(1, 5)
        yield [[draw.choice((0, 0, draw.randint(-6, 6))) for _ in range(size)] for _ in range(size)]


class SquaresTest(unittest.TestCase):
    def test_determinants(self):
        self.assertEqual(determinant([[5]]), 5)
        self.assertEqual(determinant([[0, 1], [1, 0]]), -1)
        self.assertEqual(determinant([[0, 2, 0], [0, 0, 3], [4, 0, 0]]), 24)
        self.assertEqual(determinant([[1, 2], [2, 4]]), 0)
        for rows in drawn_squares(1, 300):
            self.assertEqual(determinant(rows), by_orders(rows), rows)

    def test_solved(self):
        draw = Random(2)
        for rows in drawn_squares(3, 300):
            right = [draw.randint(-9, 9) for _ in rows]
            kept = copy.deepcopy((rows, right))
            told = solved(rows, right)
            self.assertEqual((rows, right), kept)
            if by_orders(rows) == 0:
                self.assertIsNone(told)
            else:
                tops, bottom = told
                self.assertEqual(bottom, by_orders(rows))
                for row, number in zip(rows, right):
                    self.assertEqual(sum(a * b for a, b in zip(row, tops)), bottom * number)

    def test_turned_over(self):
        self.assertEqual(turned_over([[1, 2, 3], [4, 5, 6], [7, 8, 9]]), [[1, 4, 7], [2, 5, 8], [3, 6, 9]])

    def test_stairs(self):
        for rows in drawn_squares(4, 200):
            if by_orders(rows) == 0:
                continue
            kept = copy.deepcopy(rows)
            told = stairs(rows)
            self.assertEqual(rows, kept)
            for at, row in enumerate(told):
                self.assertEqual(row[:at], [0] * at)
                self.assertGreater(row[at], 0)
            self.assertEqual(prod(row[at] for at, row in enumerate(told)), abs(by_orders(rows)))
            for row in told:
                tops, bottom = solved(turned_over(rows), row)
                self.assertTrue(all(Fraction(top, bottom).denominator == 1 for top in tops))

    def test_least_by(self):
        steps = stairs([[2, 1], [0, 3]])
        self.assertEqual(steps, [[2, 1], [0, 3]])
        for row in product(range(-7, 8), repeat=2):
            told = least_by(steps, list(row))
            self.assertTrue(0 <= told[0] < 2 and 0 <= told[1] < 3)
            gone = [one - other for one, other in zip(row, told)]
            self.assertTrue(gone[0] % 2 == 0 and (gone[1] - gone[0] // 2) % 3 == 0)

    def test_doors_square(self):
        self.assertEqual(doors_square(((0, 0, -1), (0, 1, 1, 1, -2, -3))), [[1, 0], [-1, 3]])
        for house in great_houses():
            for room, row in enumerate(doors_square(house)):
                gates = sum(door < 0 for door in house[room])
                self.assertEqual(sum(row), gates)


if __name__ == "__main__":
    unittest.main()
