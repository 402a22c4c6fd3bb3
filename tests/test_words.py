"""Words and fractions."""

import unittest
from fractions import Fraction

from holdsfast.base import words
from holdsfast.base.words import fraction, greatest, is_fraction, is_lower, is_place
from holdsfast.errors import InvalidNumber, InvalidOperation
from tests.helpers import HUGE, ODD_VALUES, raised, same

NO_INTEGERS = [value for value in ODD_VALUES if type(value) is not int]
NO_FRACTIONS = [value for value in ODD_VALUES if value != (1, 2)] + [
    (4, 2), (2, 4), (0, 2), (0, 0), (1, 0), (1, -1), (-1, -2), (True, 1), (1, True), (1, None), ("1", 2), [1, 2],
    (1, 2, 3), (1,), (1.0, 2), ((1, 2), 1), (-2, 2),
]


class TestPlaces(unittest.TestCase):
    def test_bound(self):
        self.assertIs(type(words.MAX_LETTERS), int)
        self.assertEqual(words.MAX_LETTERS, 8)

    def test_right_places(self):
        for value in ("a", "z", "hall", "abcdefgh", "zzzzzzzz"):
            self.assertIs(is_place(value), True)

    def test_wrong_places(self):
        for value in ("", "abcdefghi", "A", "aB", "a1", "a b", " a", "a ", "a\n", "-", "a-b", "`", "{", "~"):
            self.assertIs(is_place(value), False, value)

    def test_odd_values(self):
        right = ("a", "b", "ab", "q", "abcdefgh")
        for value in ODD_VALUES:
            self.assertIs(is_place(value), any(same(value, good) for good in right), value)


class TestFractions(unittest.TestCase):
    def test_against_fractions_of_python(self):
        for numerator in range(-12, 13):
            for denominator in range(1, 13):
                exact = Fraction(numerator, denominator)
                lowest = (exact.numerator, exact.denominator)
                self.assertTrue(same(fraction(numerator, denominator), lowest))
                self.assertIs(is_fraction((numerator, denominator)), (numerator, denominator) == lowest)

    def test_long_integers(self):
        self.assertEqual(fraction(HUGE * 6, HUGE * 4), (3, 2))
        self.assertEqual(fraction(-HUGE * 6, HUGE * 4), (-3, 2))
        self.assertIs(is_fraction((HUGE, 1)), True)
        self.assertIs(is_fraction((HUGE * 3, 3)), False)
        self.assertIs(is_lower((HUGE, HUGE + 1), (HUGE + 1, HUGE + 2)), True)

    def test_wrong_fractions(self):
        for value in NO_FRACTIONS:
            self.assertIs(is_fraction(value), False, value)

    def test_fraction_refuses(self):
        for wrong in NO_INTEGERS:
            for args in ((wrong, 1), (wrong, 0), (wrong, None), (wrong, True), (1, wrong), (HUGE, wrong)):
                error, kept = raised(fraction, *args)
                self.assertIs(error, InvalidNumber)
                self.assertIs(kept, wrong)
        for low in (0, -1, -HUGE):
            self.assertEqual(raised(fraction, 1, low), (InvalidNumber, low))
        self.assertTrue(same(raised(fraction, True, 0)[1], True))

    def test_order(self):
        values = [fraction(p, q) for p in range(-5, 6) for q in range(1, 6)]
        for one in values:
            for other in values:
                self.assertIs(is_lower(one, other), Fraction(*one) < Fraction(*other))
                self.assertTrue(same(greatest(one, other), max(one, other, key=lambda row: Fraction(*row))))
        self.assertEqual(greatest((1, 2)), (1, 2))
        self.assertEqual(greatest(*values), (5, 1))
        self.assertEqual(greatest((-1, 1), (-1, 2), (-2, 3)), (-1, 2))

    def test_order_refuses(self):
        for wrong in NO_FRACTIONS:
            refused = (InvalidOperation, None)
            self.assertEqual(raised(is_lower, wrong, (1, 2)), refused, wrong)
            self.assertEqual(raised(is_lower, (1, 2), wrong), refused, wrong)
            self.assertEqual(raised(is_lower, wrong, None), refused, wrong)
            self.assertEqual(raised(greatest, wrong), refused, wrong)
            self.assertEqual(raised(greatest, (1, 2), wrong), refused, wrong)
            self.assertEqual(raised(greatest, (1, 2), (3, 4), wrong, (5, 6)), refused, wrong)
        self.assertEqual(raised(greatest), (InvalidOperation, None))


if __name__ == "__main__":
    unittest.main()
