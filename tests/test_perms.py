"""Points 7 and 8: permutations."""

import itertools
import unittest

from interface import InterfaceChecks
from provedunseen.errors import BadDraw, BadPermutation
from provedunseen.perms import compose, inverse, is_permutation, permutation, permutation_number

WRONG = [(1,), (0, 0), (1, 2), (0, 2), (-1, 0), (0, 1, 3), (2, 1, 0, 2), tuple(range(7)), (0, 1, 2, 3, 4, 6)]


def rows_of(size):
    return list(itertools.permutations(range(size)))


class PermutationTest(unittest.TestCase, InterfaceChecks):
    def test_interface(self):
        self.check_functions("perms", {
            "is_permutation": "(row)", "permutation": "(size, number)", "permutation_number": "(row)",
            "inverse": "(row)", "compose": "(first, second)",
        })

    def test_ascending_order(self):
        for size in range(7):
            rows = rows_of(size)
            self.assertEqual([permutation(size, number) for number in range(len(rows))], rows)
            self.assertEqual([permutation_number(row) for row in rows], list(range(len(rows))))
            self.assertTrue(all(is_permutation(row) is True for row in rows))

    def test_empty_permutation(self):
        self.assertIs(is_permutation(()), True)
        self.assertEqual(permutation(0, 0), ())
        self.assertEqual((permutation_number(()), inverse(()), compose((), ())), (0, (), ()))

    def test_no_permutations(self):
        for row in WRONG:
            self.assertIs(is_permutation(row), False)
            for function in (permutation_number, inverse):
                with self.assertRaises(BadPermutation):
                    function(row)
            for first, second in ((row, row), (row, tuple(range(len(row)))), (tuple(range(len(row))), row)):
                with self.assertRaises(BadPermutation):
                    compose(first, second)

    def test_sizes_and_numbers_out_of_range(self):
        for size in (-1, 7, 100):
            for number in (-1, 0, 5040):
                with self.assertRaises(BadPermutation):
                    permutation(size, number)
        for size, many in ((0, 1), (1, 1), (2, 2), (3, 6), (6, 720)):
            for number in (-1, many, many + 1):
                with self.assertRaises(BadDraw):
                    permutation(size, number)

    def test_inverse(self):
        self.assertEqual(inverse((2, 0, 1, 3)), (1, 2, 0, 3))
        for size in range(6):
            for row in rows_of(size):
                undone = inverse(row)
                self.assertEqual([undone[row[a]] for a in range(size)], list(range(size)))

    def test_compose(self):
        self.assertEqual(compose((1, 2, 0), (0, 2, 1)), (2, 1, 0))
        for first in rows_of(4):
            for second in rows_of(4):
                self.assertEqual(compose(first, second), tuple(second[first[a]] for a in range(4)))

    def test_sizes_differ(self):
        for first, second in (((0, 1), (0, 1, 2)), ((0, 1, 2), (1, 0)), ((), (0,)), ((0,), ())):
            with self.assertRaises(BadPermutation):
                compose(first, second)


if __name__ == "__main__":
    unittest.main()
