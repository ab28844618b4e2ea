"""[0.5]: fractions in lowest terms."""

import unittest
from fractions import Fraction
from itertools import product

from tests.things import things_of_every_kind
from turnarrows.fractions import added, fraction, greatest, is_fraction, is_less, least, sum_of, taken_off, times, whole

NUMBERS = [(top, bottom) for top in range(-7, 8) for bottom in (-6, -4, -1, 1, 2, 3, 6)] + [(10 ** 60, 10 ** 59 * 4)]


def pair(number):
    return (number.numerator, number.denominator)


class FractionsTest(unittest.TestCase):
    def test_lowest_terms(self):
        self.assertEqual(fraction(0, -5), (0, 1))
        self.assertEqual(fraction(6, -4), (-3, 2))
        for top, bottom in NUMBERS:
            self.assertEqual(fraction(top, bottom), pair(Fraction(top, bottom)))
            self.assertIs(is_fraction(fraction(top, bottom)), True)

    def test_reckoning(self):
        for one, other in product(NUMBERS[::3], repeat=2):
            a, b = Fraction(*one), Fraction(*other)
            self.assertEqual(added(pair(a), pair(b)), pair(a + b))
            self.assertEqual(taken_off(pair(a), pair(b)), pair(a - b))
            self.assertEqual(times(one[0], pair(b)), pair(one[0] * b))
            self.assertIs(is_less(pair(a), pair(b)), a < b)
            self.assertEqual(greatest([pair(a), pair(b)]), pair(max(a, b)))
            self.assertEqual(least([pair(a), pair(b)]), pair(min(a, b)))
            self.assertEqual(sum_of([pair(a), pair(b), pair(a)]), pair(a + b + a))
        self.assertEqual(sum_of([]), (0, 1))
        self.assertEqual(whole(-4), (-4, 1))

    def test_what_is_none(self):
        for thing in (
            (0, 2), (2, 2), (2, 4), (-2, 4), (1, 0), (0, 0), (1, -2), (0, -1), (-1, -1), (True, 2), (1, True), (False, 1),
            [1, 2], (1,), (1, 2, 3), (), (1, None), ("1", 2), (1, "2"), ((1, 2), 1), {1: 2}, 1, None, "1/2", (1, [2]),
            (10 ** 99, 10 ** 98), *things_of_every_kind(),
        ):
            with self.subTest(thing=thing):
                self.assertIs(is_fraction(thing), False)
        for thing in ((0, 1), (1, 1), (-1, 1), (1, 2), (-7, 3), (10 ** 99, 10 ** 99 + 1)):
            self.assertIs(is_fraction(thing), True)


if __name__ == "__main__":
    unittest.main()
