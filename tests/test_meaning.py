"""Points 13 and 14: wires of circuits, and what is a witness."""

import itertools
import unittest

from interface import InterfaceChecks
from provedunseen.errors import BadStatement, BadWitness
from provedunseen.meaning import gate_value, holds, wire_values
from provedunseen.statements import both, circuit, either
from samples import AND, ATOMS, CIRCUITS, COLORS, JOINS, NEVER, OR, RINGS, STATEMENTS, all_witnesses

MANY_GATES = circuit(2, [("not", 0), ("and", 2, 1), ("or", 3, 0), ("xor", 4, 4), ("xor", 1, 2), ("not", 6)])
NO_WITNESSES = [
    0, 1, 2, -1, 10 ** 40, (), (0,), (1,), (2,), (0, 0), (0, 0, 0, 0, 0, 0, 0), (-1, 0), (0, 1, 2, 3, 4, 5, 6),
    ((),), ((), ()), (0, ()), (1, ()), (2, ()), ((), 0), ((0,),), ((0, 0), 0), (((0, 1), (1, 0)),), (0, 0, (0,)),
    (((0,),),), (0, (0, (0, (0, (0,))))), (1, (1, (1, (1, (1, 1))))), ((0, 1), (0, 1), (0, 1)), (0, (0, 0), 0),
    ((0, 0), (0, 0)), ((1, 1), (0,)), (0, -1), (10 ** 30, 1),
]


class WiresTest(unittest.TestCase, InterfaceChecks):
    def test_interface(self):
        self.check_functions("meaning", {
            "gate_value": "(name, first, second=0)", "wire_values": "(statement, bits)",
            "holds": "(statement, witness)",
        })

    def test_gates(self):
        tables = {"and": (0, 0, 0, 1), "or": (0, 1, 1, 1), "xor": (0, 1, 1, 0)}
        for name, table in tables.items():
            for place, (first, second) in enumerate(itertools.product((0, 1), repeat=2)):
                self.assertEqual(gate_value(name, first, second), table[place])
        for second in (0, 1):
            self.assertEqual((gate_value("not", 0, second), gate_value("not", 1, second)), (1, 0))
        self.assertEqual((gate_value("not", 0), gate_value("not", 1)), (1, 0))
        self.assertEqual((gate_value("or", 0), gate_value("or", 1), gate_value("and", 1)), (0, 1, 0))
        self.assertEqual(gate_value("xor", first=1, second=0), 1)

    def test_wire_values(self):
        self.assertEqual(wire_values(MANY_GATES, (0, 1)), (0, 1, 1, 1, 1, 0, 0, 1))
        self.assertEqual(wire_values(MANY_GATES, (1, 0)), (1, 0, 0, 0, 1, 0, 0, 1))
        for statement in CIRCUITS:
            for bits in itertools.product((0, 1), repeat=statement[1]):
                values = wire_values(statement, bits)
                self.assertEqual(values[:statement[1]], bits)
                self.assertEqual(len(values), statement[1] + len(statement[2]))
                for place, gate in enumerate(statement[2]):
                    read = [values[wire] for wire in gate[1:]]
                    self.assertEqual(values[statement[1] + place], gate_value(gate[0], *read))

    def test_wire_values_of_no_circuit(self):
        for statement in (RINGS[0], COLORS[0], both(AND, OR), either(AND, OR)):
            for bits in ((0, 1), (), 5):
                with self.assertRaises(BadStatement):
                    wire_values(statement, bits)

    def test_wire_values_of_no_bits(self):
        for bits in ((), (0,), (0, 1, 0), (0, 2), (-1, 0), 0, 1, ((0, 1),), ((0,), (1,)), (0, (1,)), (0, 10 ** 20)):
            with self.assertRaises(BadWitness):
                wire_values(AND, bits)


class HoldsTest(unittest.TestCase):
    def test_all_tuples_of_atoms(self):
        for statement in ATOMS:
            found = set(all_witnesses(statement))
            size = statement[1] if statement[0] == "circuit" else statement[1][0]
            for row in itertools.product(range(-1, size + 1), repeat=min(size, 4)):
                self.assertIs(holds(statement, row), row in found)
            if size > 4:
                for row in itertools.permutations(range(size)):
                    self.assertIs(holds(statement, row), row in found)

    def test_witnesses_of_joins(self):
        for statement in JOINS:
            found = all_witnesses(statement)
            for witness in found:
                self.assertIs(holds(statement, witness), True)
            for other in JOINS + CIRCUITS:
                for witness in all_witnesses(other)[:40]:
                    self.assertIs(holds(statement, witness), witness in found)

    def test_no_witnesses(self):
        for statement in STATEMENTS:
            found = all_witnesses(statement)
            values = NO_WITNESSES + [(u, v) for u in found[:2] for v in found[:2]]
            for witness in found[:2]:
                values += [(witness,), witness + (0,), witness[:-1], (0, witness), (1, witness), (2, witness),
                           (-1, witness), (witness, 0), (witness, ()), ((0,), witness), ((), witness)]
            for value in values:
                self.assertIs(holds(statement, value), value in found, (statement, value))

    def test_wrong_choice(self):
        statement = either(AND, NEVER)
        self.assertIs(holds(statement, (0, (1, 1))), True)
        for value in ((1, (1, 1)), (2, (1, 1)), (-1, (1, 1)), (0, (0, 1)), ((0,), (1, 1)), (0, (1, 1), 0)):
            self.assertIs(holds(statement, value), False)
        self.assertIs(holds(either(NEVER, AND), (1, (1, 1))), True)
        self.assertIs(holds(either(NEVER, AND), (0, (1, 1))), False)
        self.assertIs(holds(both(AND, OR), ((1, 1), (0, 1))), True)
        self.assertIs(holds(both(AND, OR), ((0, 1), (1, 1))), False)

    def test_readings_of_a_ring(self):
        statement = RINGS[3]
        self.assertIs(holds(statement, (0, 1, 2, 3)), True)
        for row in ((1, 2, 3, 0), (0, 3, 2, 1), (0, 2, 1, 3), (0, 1, 3, 2)):
            self.assertIs(holds(statement, row), False)

    def test_deep_values(self):
        value = (0, 1)
        for _ in range(300):
            value = (value, 0)
        for statement in STATEMENTS:
            self.assertIs(holds(statement, value), False)


if __name__ == "__main__":
    unittest.main()
