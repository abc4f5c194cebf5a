"""Points 5 and 6: distributions."""

import unittest

from interface import InterfaceChecks
from provedunseen.distributions import Distribution
from provedunseen.errors import BadWeight, EmptyDistribution
from provedunseen.ratios import Ratio


class DistributionTest(unittest.TestCase, InterfaceChecks):
    def test_interface(self):
        self.check_methods("distributions", "Distribution", {
            "__init__": "(self, weighted)", "chance": "(self, key)", "__contains__": "(self, key)",
            "__eq__": "(self, other)", "__iter__": "(self)", "__mul__": "(self, other)",
            "even": "(keys)", "mixed": "(first, *others)",
        })
        for name in ("even", "mixed"):
            self.assertIsInstance(vars(Distribution)[name], staticmethod)

    def test_weights_are_added_and_divided(self):
        made = Distribution([("b", 4), ("a", 6), ("b", 2), ((1, "x"), 12)])
        self.assertEqual(made.pairs, [("b", 1), ("a", 1), ((1, "x"), 2)])
        self.assertEqual(made.total, 4)
        self.assertEqual(list(made), made.pairs)
        self.assertEqual(sorted(vars(made).keys() & {"pairs", "total"}), ["pairs", "total"])

    def test_sum_comes_before_the_common_divisor(self):
        self.assertEqual(Distribution([("a", 1), ("b", 2), ("a", 1)]).pairs, [("a", 1), ("b", 1)])
        self.assertEqual(Distribution([("a", 9)]).pairs, [("a", 1)])
        self.assertEqual(Distribution([("a", 4), ("b", 6)]).total, 5)

    def test_errors(self):
        with self.assertRaises(EmptyDistribution):
            Distribution([])
        for weighted in ([("a", 0)], [("a", 1), ("b", -1)], [("a", 0), ("a", 5)], [("a", 5), ("a", -1)]):
            with self.assertRaises(BadWeight):
                Distribution(weighted)

    def test_chance_and_membership(self):
        made = Distribution([(0, 1), ("0", 2), ((0,), 3), (((0,),), 6)])
        for key, part in ((0, 1), ("0", 2), ((0,), 3), (((0,),), 6)):
            self.assertIs(key in made, True)
            self.assertTrue(made.chance(key) == Ratio(part, 12))
        for key in (1, "", (), ("0",), (0, 0), "(0,)"):
            self.assertIs(key in made, False)
            self.assertTrue(made.chance(key) == Ratio(0, 1))

    def test_equal_in_whatever_order(self):
        made = Distribution([("a", 1), ("b", 2)])
        self.assertTrue(made == Distribution([("b", 4), ("a", 2)]))
        self.assertFalse(made != Distribution([("b", 4), ("a", 2)]))
        for other in ([("a", 1), ("b", 1)], [("a", 1)], [("a", 1), ("b", 2), ("c", 1)], [("a", 1), ("c", 2)]):
            self.assertFalse(made == Distribution(other))
        for other in (made.pairs, None, 3, "a", dict(made.pairs)):
            self.assertFalse(made == other)

    def test_even(self):
        self.assertEqual(Distribution.even(["b", "a", "b", "c"]).pairs, [("b", 2), ("a", 1), ("c", 1)])
        self.assertEqual(Distribution.even([1, 1]).pairs, [(1, 1)])
        with self.assertRaises(EmptyDistribution):
            Distribution.even([])

    def test_mixed(self):
        first = Distribution([("a", 1), ("b", 1)])
        second = Distribution([("c", 1), ("b", 2)])
        self.assertEqual(Distribution.mixed(first, second).pairs, [("a", 3), ("b", 7), ("c", 2)])
        self.assertEqual(Distribution.mixed(second, first).pairs, [("c", 2), ("b", 7), ("a", 3)])
        self.assertTrue(Distribution.mixed(first) == first)
        self.assertTrue(Distribution.mixed(first, first, second).chance("c") == Ratio(1, 9))

    def test_product(self):
        left = Distribution([("b", 1), ("a", 2)])
        right = Distribution([(1, 3), (0, 1)])
        self.assertEqual((left * right).pairs,
                         [(("b", 1), 3), (("b", 0), 1), (("a", 1), 6), (("a", 0), 2)])
        self.assertEqual((left * right).total, 12)
        same = Distribution([("x", 2), ("y", 2)]) * Distribution([(0, 5)])
        self.assertEqual(same.pairs, [(("x", 0), 1), (("y", 0), 1)])

    def test_deep_keys(self):
        single = Distribution([("a", 1), ("b", 1)])
        chain, key = single, "a"
        for _ in range(11):
            chain, key = chain * Distribution.even(["a"]), (key, "a")
        self.assertEqual(chain.total, 2)
        self.assertTrue(chain.chance(key) == Ratio(1, 2))
        self.assertIn(key, chain)
        self.assertNotIn((key, "a"), chain)

    def test_arguments_stay(self):
        weighted, keys = [("a", 2), ("a", 4)], ["b", "b"]
        first = Distribution(weighted)
        even = Distribution.even(keys)
        Distribution.mixed(first, even)
        first * even
        self.assertEqual((weighted, keys), ([("a", 2), ("a", 4)], ["b", "b"]))
        self.assertEqual((first.pairs, even.pairs), ([("a", 1)], [("b", 1)]))
        weighted.clear()
        self.assertEqual(first.pairs, [("a", 1)])


if __name__ == "__main__":
    unittest.main()
