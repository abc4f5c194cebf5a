"""Point 4: ratios."""

import unittest
from fractions import Fraction

from interface import InterfaceChecks
from provedunseen.errors import BadRatio
from provedunseen.ratios import Ratio

NUMBERS = [-12, -7, -2, -1, 0, 1, 2, 3, 6, 10, 35]
WHOLES = [number for number in NUMBERS if number != 0]


def both_ways(part, whole):
    return Ratio(part, whole), Fraction(part, whole)


class RatioTest(unittest.TestCase, InterfaceChecks):
    def same(self, ratio, fraction):
        self.assertIsInstance(ratio, Ratio)
        self.assertEqual((ratio.part, ratio.whole), (fraction.numerator, fraction.denominator))

    def test_interface(self):
        self.check_methods("ratios", "Ratio", {
            "__init__": "(self, part, whole)", "__add__": "(self, other)", "__sub__": "(self, other)",
            "__mul__": "(self, other)", "__eq__": "(self, other)", "__str__": "(self)",
            "less": "(self, other)", "raised": "(self, times)",
        })

    def test_lowest_terms_and_positive_whole(self):
        for part in NUMBERS:
            for whole in WHOLES:
                self.same(*both_ways(part, whole))

    def test_zero_is_zero_over_one(self):
        for whole in (5, 1, -1, -8):
            self.assertEqual((Ratio(0, whole).part, Ratio(0, whole).whole), (0, 1))

    def test_whole_of_zero(self):
        for part in (-1, 0, 1):
            with self.assertRaises(BadRatio):
                Ratio(part, 0)

    def test_signs(self):
        for part in NUMBERS:
            for whole in WHOLES:
                left, plain_left = both_ways(part, whole)
                for other in NUMBERS:
                    right, plain_right = both_ways(other, 14)
                    self.same(left + right, plain_left + plain_right)
                    self.same(left - right, plain_left - plain_right)
                    self.same(left * right, plain_left * plain_right)
                    self.assertIs(left.less(right), plain_left < plain_right)
                    self.assertIs(left == right, plain_left == plain_right)

    def test_equal_to_nothing_else(self):
        self.assertTrue(Ratio(2, 4) == Ratio(-1, -2))
        self.assertFalse(Ratio(2, 4) != Ratio(1, 2))
        self.assertTrue(Ratio(1, 2) != Ratio(1, 3))
        self.assertTrue(Ratio(1, 2) != Ratio(3, 2))
        for other in (2, "2/1", (2, 1), None, Fraction(2, 1), 2.0):
            self.assertFalse(Ratio(2, 1) == other)

    def test_less_of_equal_ratios(self):
        self.assertIs(Ratio(1, 2).less(Ratio(2, 4)), False)
        self.assertIs(Ratio(-1, 2).less(Ratio(1, -3)), True)

    def test_raised(self):
        for part, whole in ((2, 3), (-2, 3), (0, 1), (1, 1), (7, 1)):
            for times in (0, 1, 2, 5, 59, 60):
                self.same(Ratio(part, whole).raised(times), Fraction(part, whole) ** times)
        for times in (-1, 61, -60, 100):
            with self.assertRaises(BadRatio):
                Ratio(1, 2).raised(times)

    def test_text(self):
        for part, whole, text in ((1, 2, "1/2"), (3, -1, "-3/1"), (0, 9, "0/1"), (10, 4, "5/2"), (-6, -4, "3/2")):
            self.assertEqual(str(Ratio(part, whole)), text)

    def test_long_numbers_stay_exact(self):
        part, whole = 10 ** 59 + 7, 10 ** 59 + 9
        self.same(Ratio(part, whole) - Ratio(1, whole), Fraction(part - 1, whole))
        power = Ratio(part, whole).raised(60)
        self.assertEqual(str(power), f"{part ** 60}/{whole ** 60}")

    def test_arguments_stay(self):
        left, right = Ratio(1, 2), Ratio(1, 3)
        left + right, left - right, left * right, left.less(right), left.raised(3)
        self.assertEqual((str(left), str(right)), ("1/2", "1/3"))


if __name__ == "__main__":
    unittest.main()
