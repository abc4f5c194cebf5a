"""Points 73 to 75: bits, flips and masked tables."""

import itertools
import unittest

from interface import InterfaceChecks
from provedunseen.errors import BadContents, BadDraw
from provedunseen.masks import bit_rows, bits, flipped, masked_rows, number_of_bits, row_number

GATES = [("not", 0), ("not", 2), ("and", 0, 1), ("or", 2, 0), ("xor", 1, 2), ("and", 1, 1), ("or", 0, 0), ("xor", 2, 2)]
VALUES = {
    "not": lambda a, b: 1 - a, "and": lambda a, b: a * b, "or": lambda a, b: max(a, b), "xor": lambda a, b: (a + b) % 2,
}


class BitsTest(unittest.TestCase, InterfaceChecks):
    def test_interface(self):
        self.check_functions("masks", {
            "bits": "(number, size)", "number_of_bits": "(row)", "bit_rows": "(size)", "flipped": "(row, *masks)",
            "row_number": "(gate, row)", "masked_rows": "(gate, flips, flip=0)",
        })

    def test_bits_and_numbers(self):
        for size in range(9):
            for number in range(2 ** size):
                row = bits(number, size)
                self.assertEqual(row, tuple(map(int, f"{number:0{size}b}"[::-1])) if size else ())
                self.assertEqual(number_of_bits(row), number)
        self.assertEqual(bits(6, 4), (0, 1, 1, 0))
        self.assertEqual(number_of_bits((0, 1, 1, 0)), 6)

    def test_edges(self):
        self.assertEqual(bits(0, 0), ())
        self.assertEqual(number_of_bits(()), 0)
        self.assertEqual(bits(2 ** 60 - 1, 60), (1,) * 60)
        self.assertEqual(bits(2 ** 59, 60), (0,) * 59 + (1,))
        self.assertEqual(number_of_bits((1,) * 60), 2 ** 60 - 1)
        self.assertEqual(number_of_bits((0,) * 59 + (1,)), 2 ** 59)

    def test_numbers_out_of_range(self):
        for size in (0, 1, 2, 7, 59, 60):
            for number in (-1, -(2 ** size), 2 ** size, 2 ** size + 1, 2 ** 61, -(2 ** 70)):
                with self.assertRaises(BadDraw):
                    bits(number, size)

    def test_what_is_no_bit(self):
        for row in ((2,), (-1,), (0, 1, 2), (99, 0), (0, 1, -1, 1), (1,) * 59 + (2,), (10 ** 20,)):
            with self.assertRaises(BadContents):
                number_of_bits(row)
            with self.assertRaises(BadContents):
                flipped(row)
            with self.assertRaises(BadContents):
                flipped(row, (0,) * len(row))
            with self.assertRaises(BadContents):
                flipped((0,) * len(row), row)
            with self.assertRaises(BadContents):
                flipped((0,) * len(row), (1,) * len(row), row)

    def test_bit_rows(self):
        for size in range(10):
            rows = bit_rows(size)
            self.assertIs(type(rows), list)
            self.assertEqual(rows, list(itertools.product((0, 1), repeat=size)))
            rows.clear()
            self.assertEqual(len(bit_rows(size)), 2 ** size)


class FlippedTest(unittest.TestCase):
    def test_flipped(self):
        for size in range(4):
            for row, mask, other in itertools.product(bit_rows(size), repeat=3):
                self.assertEqual(flipped(row), row)
                self.assertEqual(flipped(row, mask), tuple((a + b) % 2 for a, b in zip(row, mask)))
                self.assertEqual(flipped(row, mask, other), flipped(flipped(row, mask), other))
                self.assertEqual(flipped(row, mask, other, mask), flipped(row, other))
        self.assertEqual(flipped((), (), ()), ())
        self.assertEqual(flipped((1,) * 60, (1,) * 60), (0,) * 60)

    def test_masks_of_another_length(self):
        for row, masks in (((), ((0,),)), ((0,), ((),)), ((0, 1), ((0,),)), ((0, 1), ((0, 1), (0, 1, 1))),
                           ((0, 1), ((1, 1, 1), (0, 0))), ((1,), ((1,), (1,), ()))):
            with self.assertRaises(BadContents):
                flipped(row, *masks)


class TablesTest(unittest.TestCase):
    def test_row_number(self):
        for gate in GATES:
            for row in bit_rows(3):
                expected = row[gate[1]] if gate[0] == "not" else 2 * row[gate[1]] + row[gate[2]]
                self.assertEqual(row_number(gate, row), expected)
        self.assertEqual(row_number(("not", 1), (0, 1)), 1)
        self.assertEqual(row_number(("xor", 1, 0), (0, 1)), 2)
        self.assertEqual(row_number(("and", 1, 1), (0, 1)), 3)

    def test_masked_rows(self):
        for gate in GATES:
            for flips in bit_rows(3):
                for flip in (0, 1):
                    rows = masked_rows(gate, flips, flip)
                    self.assertEqual((type(rows), len(rows)), (tuple, 2 if gate[0] == "not" else 4))
                    for number, content in enumerate(rows):
                        if gate[0] == "not":
                            first, second = number, 0
                        else:
                            first, second = divmod(number, 2)
                            second = (second + flips[gate[2]]) % 2
                        value = VALUES[gate[0]]((first + flips[gate[1]]) % 2, second)
                        self.assertEqual(content, (value + flip) % 2)

    def test_rows_of_values(self):
        """The row of flipped values has the flipped value of the gate's own wire."""
        for gate in GATES:
            for values, flips in itertools.product(bit_rows(3), repeat=2):
                value = VALUES[gate[0]](values[gate[1]], values[gate[-1]])
                for flip in (0, 1):
                    row = flipped(values, flips)
                    self.assertEqual(masked_rows(gate, flips, flip)[row_number(gate, row)], (value + flip) % 2)

    def test_without_flips(self):
        self.assertEqual(masked_rows(("not", 0), (0,)), (1, 0))
        self.assertEqual(masked_rows(("and", 0, 1), (0, 0)), (0, 0, 0, 1))
        self.assertEqual(masked_rows(("or", 0, 1), (0, 0)), (0, 1, 1, 1))
        self.assertEqual(masked_rows(("xor", 0, 1), (0, 0)), (0, 1, 1, 0))
        self.assertEqual(masked_rows(("xor", 0, 1), (0, 0), flip=1), (1, 0, 0, 1))

    def test_one_wire_twice(self):
        self.assertEqual(masked_rows(("and", 0, 0), (1,)), (1, 0, 0, 0))
        self.assertEqual(masked_rows(("or", 1, 1), (0, 1)), (1, 1, 1, 0))
        self.assertEqual(masked_rows(("xor", 1, 1), (0, 1)), (0, 1, 1, 0))

    def test_example(self):
        self.assertEqual(masked_rows(("and", 0, 1), (1, 0)), (0, 1, 0, 0))


if __name__ == "__main__":
    unittest.main()
