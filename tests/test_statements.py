"""Point 12, and what point 13 says of circuits and gates."""

import unittest

from interface import InterfaceChecks
from provedunseen.errors import BadStatement
from provedunseen.graphs import make_graph
from provedunseen.statements import alike, atom_count, both, circuit, colors, either, ring

EDGE = make_graph(2, [(0, 1)])
TRIANGLE = make_graph(3, [(0, 1), (0, 2), (1, 2)])
ATOM = ring(TRIANGLE)


class StatementTest(unittest.TestCase, InterfaceChecks):
    def test_interface(self):
        self.check_functions("statements", {
            "ring": "(graph)", "alike": "(first, second)", "circuit": "(inputs, gates)",
            "colors": "(graph, count)", "both": "(first, second)", "either": "(first, second)",
            "atom_count": "(statement)",
        })

    def refuses(self, function, *arguments):
        with self.assertRaises(BadStatement):
            function(*arguments)

    def test_ring(self):
        self.assertEqual(ring(TRIANGLE), ("ring", TRIANGLE))
        self.assertEqual(ring((3, ())), ("ring", (3, ())))
        self.assertEqual(ring((6, ())), ("ring", (6, ())))
        self.refuses(ring, (2, ((0, 1),)))
        self.refuses(ring, (1, ()))

    def test_alike(self):
        self.assertEqual(alike(EDGE, (2, ())), ("alike", EDGE, (2, ())))
        self.assertEqual(alike((1, ()), (1, ())), ("alike", (1, ()), (1, ())))
        self.refuses(alike, EDGE, TRIANGLE)
        self.refuses(alike, TRIANGLE, EDGE)

    def test_colors(self):
        for count in (2, 3, 4):
            self.assertEqual(colors(EDGE, count), ("colors", EDGE, count))
        for count in (1, 5, 0, -1):
            self.refuses(colors, EDGE, count)
        self.refuses(colors, (2, ()), 2)
        self.refuses(colors, (1, ()), 3)

    def test_joins(self):
        self.assertEqual(both(ATOM, alike(EDGE, EDGE)), ("both", ATOM, ("alike", EDGE, EDGE)))
        self.assertEqual(either(ATOM, ATOM), ("either", ATOM, ATOM))
        for join in (both, either):
            self.refuses(join, colors(EDGE, 2), ATOM)
            self.refuses(join, ATOM, colors(EDGE, 2))
            four = join(join(ATOM, ATOM), join(ATOM, ATOM))
            self.assertEqual(atom_count(four), 4)
            self.assertEqual(atom_count(join(ATOM, join(join(ATOM, ATOM), ATOM))), 4)
            self.refuses(join, four, ATOM)
            self.refuses(join, ATOM, four)
            self.refuses(join, join(ATOM, ATOM), join(join(ATOM, ATOM), ATOM))
            self.refuses(join, four, four)

    def test_atom_count(self):
        for atom in (ATOM, alike(EDGE, EDGE), circuit(1, [("not", 0)]), colors(EDGE, 2)):
            self.assertEqual(atom_count(atom), 1)
        self.assertEqual(atom_count(both(ATOM, ATOM)), 2)
        self.assertEqual(atom_count(either(both(ATOM, ATOM), ATOM)), 3)


class CircuitTest(unittest.TestCase):
    def refuses(self, inputs, gates):
        with self.assertRaises(BadStatement):
            circuit(inputs, gates)

    def test_all_gates(self):
        gates = [("not", 0), ("and", 0, 1), ("or", 2, 2), ("xor", 4, 3)]
        self.assertEqual(circuit(2, gates), ("circuit", 2, tuple(gates)))
        self.assertEqual(gates, [("not", 0), ("and", 0, 1), ("or", 2, 2), ("xor", 4, 3)])

    def test_inputs_and_gates_in_range(self):
        for inputs in (1, 2, 3, 4):
            self.assertEqual(circuit(inputs, [("not", inputs - 1)]), ("circuit", inputs, (("not", inputs - 1),)))
        for inputs in (0, 5, -1):
            self.refuses(inputs, [("not", 0)])
        for many in (1, 2, 5, 6):
            self.assertEqual(len(circuit(1, [("not", 0)] * many)[2]), many)
        self.refuses(1, [])
        self.refuses(1, [("not", 0)] * 7)

    def test_wires(self):
        self.assertEqual(circuit(1, [("not", 0), ("and", 1, 1), ("xor", 0, 2)])[1], 1)
        for gate in (("not", 1), ("not", -1), ("and", 0, 1), ("and", 1, 0), ("or", -1, 0), ("xor", 0, 9)):
            self.refuses(1, [gate])
        self.refuses(1, [("not", 0), ("and", 0, 2)])
        self.refuses(4, [("not", 0), ("not", 1), ("not", 6)])

    def test_form_of_a_gate(self):
        wrong = [
            (), ("not",), ("not", 0, 0), ("and", 0), ("or", 0, 0, 0), ("xor",), ("nand", 0, 0), ("", 0),
            ("NOT", 0), (0, 0), ("not", "0"), ("not", (0,)), ("and", 0, "a"), ("not", False),
        ]
        for gate in wrong:
            with self.subTest(gate=gate):
                self.refuses(1, [gate])
                self.refuses(1, [("not", 0), gate])


if __name__ == "__main__":
    unittest.main()
