"""Points 31, 32 and 33: witnesses by plain search."""

import inspect
import unittest

from interface import InterfaceChecks
from provedunseen.errors import BadDraw, BadWitness
from provedunseen.meaning import holds
from provedunseen.statements import alike, both, either, ring
from provedunseen.witnesses import (
    count_witnesses, first_witness, is_true, witness_at, witness_number, witnesses,
)
from samples import AND, NEVER, OR, PRISM, STATEMENTS, all_witnesses, full

# 720 relabellings of each atom: far too many pairs to go through.
SIX = alike(full(6), full(6))
HUGE = both(both(SIX, SIX), both(SIX, SIX))
IDENTITY = (0, 1, 2, 3, 4, 5)
BACKWARDS = (5, 4, 3, 2, 1, 0)
FALSE_SIX = alike(full(6), PRISM)


class WitnessesTest(unittest.TestCase, InterfaceChecks):
    def test_interface(self):
        self.check_functions("witnesses", {
            "witnesses": "(statement)", "count_witnesses": "(statement)", "first_witness": "(statement)",
            "is_true": "(statement)", "witness_at": "(statement, number)",
            "witness_number": "(statement, witness)",
        })
        self.assertTrue(inspect.isgeneratorfunction(witnesses))

    def test_all_in_ascending_order(self):
        for statement in STATEMENTS:
            self.assertEqual(list(witnesses(statement)), all_witnesses(statement))

    def test_counts(self):
        for statement in STATEMENTS:
            found = all_witnesses(statement)
            self.assertEqual(count_witnesses(statement), len(found))
            self.assertIs(is_true(statement), len(found) > 0)
            self.assertEqual(first_witness(statement), found[0] if found else None)

    def test_numbers(self):
        for statement in STATEMENTS:
            found = all_witnesses(statement)
            step = 1 + len(found) // 50
            for number in range(0, len(found), step):
                self.assertEqual(witness_at(statement, number), found[number])
                self.assertEqual(witness_number(statement, found[number]), number)
            for number in (-1, len(found), len(found) + 1, -len(found) - 1, 10 ** 30):
                with self.assertRaises(BadDraw):
                    witness_at(statement, number)

    def test_number_of_no_witness(self):
        for statement in STATEMENTS:
            found = all_witnesses(statement)
            values = [0, -1, (), (0,), (0, 0), (9, 9, 9), ((), ()), ((0, 0), (0, 0)), (2, (1, 1)), (0, (0, (0, 1)))]
            for value in values + all_witnesses(OR) + all_witnesses(both(OR, AND)):
                if value not in found:
                    with self.assertRaises(BadWitness):
                        witness_number(statement, value)

    def test_false_statements(self):
        for statement in (NEVER, ring((3, ())), both(NEVER, OR), both(OR, NEVER), either(NEVER, NEVER)):
            self.assertEqual((list(witnesses(statement)), count_witnesses(statement)), ([], 0))
            self.assertIsNone(first_witness(statement))
            self.assertIs(is_true(statement), False)
            for number in (0, -1, 1):
                with self.assertRaises(BadDraw):
                    witness_at(statement, number)

    def test_very_many_witnesses(self):
        many = 720 ** 4
        self.assertEqual(count_witnesses(HUGE), many)
        self.assertIs(is_true(HUGE), True)
        self.assertEqual(first_witness(HUGE), ((IDENTITY, IDENTITY), (IDENTITY, IDENTITY)))
        self.assertEqual(witness_at(HUGE, many - 1), ((BACKWARDS, BACKWARDS), (BACKWARDS, BACKWARDS)))
        for number in (0, 1, 719, 720, 720 ** 2, 123456789012, many - 2):
            witness = witness_at(HUGE, number)
            self.assertIs(holds(HUGE, witness), True)
            self.assertEqual(witness_number(HUGE, witness), number)
        for number in (many, -1):
            with self.assertRaises(BadDraw):
                witness_at(HUGE, number)

    def test_first_values_of_very_many(self):
        taken = []
        for witness in witnesses(HUGE):
            taken.append(witness)
            if len(taken) == 1500:
                break
        self.assertEqual(taken, [witness_at(HUGE, number) for number in range(3)] + taken[3:])
        self.assertEqual(taken, sorted(taken))
        self.assertEqual(taken[721], witness_at(HUGE, 721))

    def test_large_false_statement(self):
        statement = both(both(SIX, SIX), both(SIX, FALSE_SIX))
        self.assertEqual(count_witnesses(statement), 0)
        self.assertIs(is_true(statement), False)
        self.assertIsNone(first_witness(statement))
        with self.assertRaises(BadWitness):
            witness_number(statement, ((IDENTITY, IDENTITY), (IDENTITY, IDENTITY)))
        choice = either(statement[1], either(SIX, FALSE_SIX))
        self.assertEqual(count_witnesses(choice), 720 ** 2 + 720)
        self.assertEqual(witness_at(choice, 720 ** 2), (1, (0, IDENTITY)))
        self.assertEqual(witness_number(choice, (1, (0, BACKWARDS))), 720 ** 2 + 719)


if __name__ == "__main__":
    unittest.main()
