"""The interface of alnage/fractions.py."""
import fractions as library
import itertools
import unittest

from alnage import fractions
from alnage.fractions import ONE, ZERO, fraction, is_less, minus, over, plus, power, times

SOME = [(0, 1), (1, 1), (-1, 1), (1, 2), (-1, 2), (2, 3), (-3, 2), (7, 1), (-10, 7), (10 ** 30, 3), (1, 10 ** 30)]
UNREDUCED = [(0, 10), (25, 10), (-6, 4), (10, 10)]


def pair(number):
    return (number.numerator, number.denominator)


class FractionTest(unittest.TestCase):
    def test_all_is_defined_here(self):
        for name in ("fraction", "plus", "minus", "times", "over", "power", "is_less"):
            self.assertEqual(getattr(fractions, name).__module__, "alnage.fractions")

    def test_zero_and_one(self):
        self.assertEqual(ZERO, (0, 1))
        self.assertEqual(ONE, (1, 1))
        self.assertIs(type(ZERO), tuple)
        self.assertIs(type(ONE), tuple)

    def test_lowest_terms(self):
        self.assertEqual(fraction(6, 4), (3, 2))
        self.assertEqual(fraction(4, 6), (2, 3))
        self.assertEqual(fraction(25, 10), (5, 2))
        self.assertEqual(fraction(7, 7), (1, 1))
        self.assertEqual(fraction(12, 4), (3, 1))
        self.assertEqual(fraction(3, 2), (3, 2))

    def test_signs(self):
        self.assertEqual(fraction(-6, 4), (-3, 2))
        self.assertEqual(fraction(6, -4), (-3, 2))
        self.assertEqual(fraction(-6, -4), (3, 2))
        self.assertEqual(fraction(1, -1), (-1, 1))

    def test_nothing(self):
        for bottom in (1, -1, 12, -12, 10 ** 40):
            self.assertEqual(fraction(0, bottom), (0, 1))

    def test_great_numbers(self):
        self.assertEqual(fraction(10 ** 60, 10 ** 58), (100, 1))
        self.assertEqual(fraction(-(6 ** 90), 4 ** 90), (-(3 ** 90), 2 ** 90))
        self.assertEqual(fraction(10 ** 50 + 1, 10 ** 50), (10 ** 50 + 1, 10 ** 50))

    def test_kinds(self):
        for value in (fraction(6, 4), plus(ONE, ONE), minus(ONE, ONE), times(ONE, ONE), over(ONE, ONE), power(ONE, 2)):
            self.assertIs(type(value), tuple)
            self.assertEqual([type(part) for part in value], [int, int])
        self.assertIs(is_less(ZERO, ONE), True)
        self.assertIs(is_less(ONE, ZERO), False)


class ReckoningTest(unittest.TestCase):
    def test_by_hand(self):
        self.assertEqual(plus((1, 2), (1, 3)), (5, 6))
        self.assertEqual(plus((1, 2), (1, 2)), (1, 1))
        self.assertEqual(plus((1, 2), (-1, 2)), (0, 1))
        self.assertEqual(minus((1, 2), (1, 3)), (1, 6))
        self.assertEqual(minus((1, 3), (1, 2)), (-1, 6))
        self.assertEqual(times((2, 3), (3, 4)), (1, 2))
        self.assertEqual(times((-2, 3), (0, 1)), (0, 1))
        self.assertEqual(over((2, 3), (4, 3)), (1, 2))
        self.assertEqual(over((2, 3), (-4, 3)), (-1, 2))
        self.assertEqual(over((0, 1), (-4, 3)), (0, 1))

    def test_all_pairs(self):
        for one, two in itertools.product(SOME + UNREDUCED, repeat=2):
            first, second = library.Fraction(*one), library.Fraction(*two)
            with self.subTest(one=one, two=two):
                self.assertEqual(plus(one, two), pair(first + second))
                self.assertEqual(minus(one, two), pair(first - second))
                self.assertEqual(times(one, two), pair(first * second))
                self.assertIs(is_less(one, two), first < second)
                if second != 0:
                    self.assertEqual(over(one, two), pair(first / second))

    def test_less(self):
        self.assertFalse(is_less((1, 2), (1, 2)))
        self.assertTrue(is_less((-1, 2), (-1, 3)))
        self.assertFalse(is_less((-1, 3), (-1, 2)))
        self.assertTrue(is_less((-1, 2), ZERO))
        self.assertTrue(is_less((10 ** 40, 10 ** 40 + 1), ONE))
        self.assertFalse(is_less((10 ** 40 + 1, 10 ** 40), ONE))


class PowerTest(unittest.TestCase):
    def test_by_hand(self):
        self.assertEqual(power((2, 3), 0), (1, 1))
        self.assertEqual(power((2, 3), 1), (2, 3))
        self.assertEqual(power((2, 3), 3), (8, 27))
        self.assertEqual(power((-2, 3), 2), (4, 9))
        self.assertEqual(power((-2, 3), 3), (-8, 27))

    def test_nothing(self):
        self.assertEqual(power(ZERO, 0), (1, 1))
        self.assertEqual(power(ZERO, 1), (0, 1))
        self.assertEqual(power(ZERO, 9), (0, 1))

    def test_negative_exponents(self):
        self.assertEqual(power((2, 3), -1), (3, 2))
        self.assertEqual(power((2, 3), -3), (27, 8))
        self.assertEqual(power((-2, 3), -1), (-3, 2))
        self.assertEqual(power((-2, 3), -2), (9, 4))
        self.assertEqual(power((-1, 3), -3), (-27, 1))

    def test_not_in_lowest_terms(self):
        self.assertEqual(power((25, 10), 2), (25, 4))
        self.assertEqual(power((-25, 10), -1), (-2, 5))
        self.assertEqual(power((0, 10), 2), (0, 1))

    def test_all_exponents(self):
        for one, exponent in itertools.product(SOME, range(-9, 10)):
            if one[0] != 0 or exponent >= 0:
                with self.subTest(one=one, exponent=exponent):
                    self.assertEqual(power(one, exponent), pair(library.Fraction(*one) ** exponent))

    def test_great_exponents(self):
        self.assertEqual(power((-2, 3), 1001), (-(2 ** 1001), 3 ** 1001))
        self.assertEqual(power((-2, 3), -1000), (3 ** 1000, 2 ** 1000))
        self.assertEqual(power((-1, 1), 10 ** 6), (1, 1))


if __name__ == "__main__":
    unittest.main()
