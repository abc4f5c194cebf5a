"""Points 34 to 38: statements that are changed a little, and their witnesses."""

import itertools
import unittest

from interface import InterfaceChecks
from provedunseen.carried import (
    joined_alike, joined_witness, regroup_statement, regroup_witness, relabel_statement, relabel_witness,
    swap_statement, swap_witness,
)
from provedunseen.errors import BadPermutation, BadStatement, BadWitness
from provedunseen.graphs import relabel
from provedunseen.meaning import holds
from provedunseen.perms import inverse, permutation
from provedunseen.statements import alike, both, colors, either, ring
from provedunseen.witnesses import witness_at, witness_number
from samples import (
    ALIKES, AND, ATOMS, CIRCUITS, COLORS, EDGE, EMPTY, HOUSE, JOINS, NEVER, OR, RINGS, SMALL, STAR, TRUE_RING,
    all_witnesses, cycle,
)

SWAPPED = ALIKES + JOINS
REGROUPED = [statement for statement in JOINS if statement[1][0] == statement[0]]


class CarriedCase(unittest.TestCase):
    def check_carried(self, given, returned, carry):
        """Check that the witnesses become all witnesses, each from exactly one; return their list."""
        carried = [carry(witness) for witness in all_witnesses(given)]
        self.assertEqual(sorted(carried), all_witnesses(returned))
        return carried


class RelabelTest(CarriedCase, InterfaceChecks):
    def test_interface(self):
        self.check_functions("carried", {
            "relabel_statement": "(statement, row)", "swap_statement": "(statement)",
            "regroup_statement": "(statement)", "joined_alike": "(first, *others)",
            "relabel_witness": "(statement, witness, row)", "swap_witness": "(statement, witness)",
            "regroup_witness": "(statement, witness)", "joined_witness": "(first, *others)",
        })

    def test_given_examples(self):
        row = (2, 0, 1, 3)
        self.assertEqual(relabel_statement(TRUE_RING, row), ring(relabel(cycle(4), row)))
        self.assertEqual(relabel_witness(TRUE_RING, (0, 1, 2, 3), row), (0, 1, 3, 2))
        statement = colors((3, ((0, 1),)), 3)
        self.assertEqual(relabel_statement(statement, (2, 0, 1)), ("colors", (3, ((0, 2),)), 3))
        self.assertEqual(relabel_witness(statement, (0, 2, 1), (2, 0, 1)), (2, 1, 0))
        self.assertEqual(relabel_statement(SMALL, (1, 0, 2, 3))[2], SMALL[2])

    def test_relabelling_and_leading_back(self):
        for statement in RINGS + ALIKES + COLORS:
            nodes = statement[1][0]
            for row in list(itertools.permutations(range(nodes)))[::1 + nodes * nodes]:
                moved = relabel_statement(statement, row)
                self.assertEqual(moved, (statement[0], relabel(statement[1], row), *statement[2:]))
                self.assertEqual(relabel_statement(moved, inverse(row)), statement)
                carried = self.check_carried(statement, moved,
                                             lambda witness: relabel_witness(statement, witness, row))
                back = [relabel_witness(moved, witness, inverse(row)) for witness in carried]
                self.assertEqual(back, all_witnesses(statement))

    def test_entries_of_alike_and_colors(self):
        for statement in (SMALL, colors(HOUSE, 3)):
            for number in (0, 1, 7, 23):
                row = permutation(statement[1][0], number)
                for witness in all_witnesses(statement):
                    moved = relabel_witness(statement, witness, row)
                    self.assertEqual([moved[row[a]] for a in range(len(row))], list(witness))

    def test_errors_in_their_order(self):
        for statement in CIRCUITS + JOINS:
            for row in ((0, 1), (0,), (5, 5), ()):
                with self.assertRaises(BadStatement):
                    relabel_statement(statement, row)
                with self.assertRaises(BadStatement):
                    relabel_witness(statement, (9, 9), row)
        for statement in (TRUE_RING, SMALL, colors(STAR, 2)):
            for row in ((0, 1, 2), (0, 1, 2, 3, 4), (0, 1, 2, 2), (1, 2, 3, 4), ()):
                with self.assertRaises(BadPermutation):
                    relabel_statement(statement, row)
                for witness in (all_witnesses(statement)[0], (9, 9), 0):
                    with self.assertRaises(BadPermutation):
                        relabel_witness(statement, witness, row)
            for witness in ((9, 9), 0, (), (0, 0, 0, 0), ((0, 1), (2, 3))):
                with self.assertRaises(BadWitness):
                    relabel_witness(statement, witness, (3, 2, 1, 0))


class SwapTest(CarriedCase):
    def test_given_examples(self):
        self.assertEqual(swap_statement(both(AND, OR)), both(OR, AND))
        self.assertEqual(swap_statement(either(AND, OR)), either(OR, AND))
        self.assertEqual(swap_statement(alike(EDGE, (2, ()))), alike((2, ()), EDGE))
        self.assertEqual(swap_witness(both(AND, OR), ((1, 1), (0, 1))), ((0, 1), (1, 1)))
        self.assertEqual(swap_witness(either(AND, OR), (0, (1, 1))), (1, (1, 1)))
        self.assertEqual(swap_witness(either(AND, OR), (1, (0, 1))), (0, (0, 1)))
        self.assertEqual(swap_witness(SMALL, (2, 0, 1, 3)), (1, 2, 0, 3))

    def test_swapping_twice(self):
        for statement in SWAPPED:
            swapped = swap_statement(statement)
            self.assertEqual(swapped, (statement[0], statement[2], statement[1]))
            self.assertEqual(swap_statement(swapped), statement)
            carried = self.check_carried(statement, swapped, lambda witness: swap_witness(statement, witness))
            self.assertEqual([swap_witness(swapped, witness) for witness in carried], all_witnesses(statement))

    def test_errors_in_their_order(self):
        for statement in RINGS + CIRCUITS + COLORS:
            with self.assertRaises(BadStatement):
                swap_statement(statement)
            for witness in all_witnesses(statement)[:1] + [(9, 9)]:
                with self.assertRaises(BadStatement):
                    swap_witness(statement, witness)
        for statement in SWAPPED:
            for witness in ((9, 9), 0, (), (2, (1, 1)), ((), ())):
                with self.assertRaises(BadWitness):
                    swap_witness(statement, witness)


class RegroupTest(CarriedCase):
    def test_given_examples(self):
        self.assertEqual(regroup_statement(both(both(AND, OR), NEVER)), both(AND, both(OR, NEVER)))
        self.assertEqual(regroup_statement(either(either(AND, OR), NEVER)), either(AND, either(OR, NEVER)))
        u, v, w = (1, 1), (0, 1), (1, 0)
        self.assertEqual(regroup_witness(both(both(AND, OR), OR), ((u, v), w)), (u, (v, w)))
        statement = either(either(AND, OR), OR)
        self.assertEqual(regroup_witness(statement, (0, (0, u))), (0, u))
        self.assertEqual(regroup_witness(statement, (0, (1, v))), (1, (0, v)))
        self.assertEqual(regroup_witness(statement, (1, w)), (1, (1, w)))

    def test_numbers_are_kept(self):
        self.assertGreater(len(REGROUPED), 3)
        for statement in REGROUPED:
            regrouped = regroup_statement(statement)
            carried = self.check_carried(statement, regrouped, lambda witness: regroup_witness(statement, witness))
            self.assertEqual(carried, all_witnesses(regrouped))
            for number in range(0, len(carried), 3):
                witness = regroup_witness(statement, witness_at(statement, number))
                self.assertEqual(witness_number(regrouped, witness), number)

    def test_regrouping_and_swapping_three_times(self):
        for statement in REGROUPED:
            for first in all_witnesses(statement):
                now, witness = statement, first
                for _ in range(3):
                    witness = regroup_witness(now, witness)
                    now = regroup_statement(now)
                    witness = swap_witness(now, witness)
                    now = swap_statement(now)
                self.assertEqual((now, witness), (statement, first))

    def test_errors_in_their_order(self):
        others = [statement for statement in ATOMS + JOINS if statement not in REGROUPED]
        self.assertIn(both(OR, both(AND, OR)), others)
        for statement in others + [both(either(AND, OR), OR), either(both(AND, OR), OR)]:
            with self.assertRaises(BadStatement):
                regroup_statement(statement)
            for witness in all_witnesses(statement)[:1] + [(9, 9)]:
                with self.assertRaises(BadStatement):
                    regroup_witness(statement, witness)
        for statement in REGROUPED:
            for witness in ((9, 9), 0, (), (2, (0, (1, 1))), (((1, 1),), (1, 1))):
                with self.assertRaises(BadWitness):
                    regroup_witness(statement, witness)


class JoinedTest(CarriedCase):
    def chain(self, *numbers):
        """Alike statements from the house to one relabelled house after another."""
        graphs = [HOUSE] + [relabel(HOUSE, permutation(5, number)) for number in numbers]
        return [alike(before, after) for before, after in zip(graphs, graphs[1:])]

    def test_joined_statement(self):
        first, second, third = self.chain(7, 50, 111)
        self.assertEqual(joined_alike(first), first)
        self.assertEqual(joined_alike(first, second), alike(first[1], second[2]))
        self.assertEqual(joined_alike(first, second, third), alike(HOUSE, third[2]))
        self.assertEqual(joined_alike(alike(EMPTY, EMPTY), alike(EMPTY, EMPTY)), alike(EMPTY, EMPTY))

    def test_bad_statements(self):
        first, second, third = self.chain(7, 50, 111)
        for statements in (
            (TRUE_RING,), (first, both(AND, OR)), (AND, first), (first, third), (second, first), (first, first),
            (first, second, second), (first, alike(EDGE, EDGE)), (first, second, TRUE_RING), (either(SMALL, SMALL),),
            (first, colors(HOUSE, 3)), (first, third, second),
        ):
            with self.assertRaises(BadStatement):
                joined_alike(*statements)

    def test_joined_witness(self):
        self.assertEqual(joined_witness((2, 0, 1)), (2, 0, 1))
        self.assertEqual(joined_witness((1, 2, 0), (0, 2, 1)), (2, 1, 0))
        self.assertEqual(joined_witness((1, 2, 0), (0, 2, 1), (1, 0, 2)), (2, 0, 1))
        self.assertEqual(joined_witness((), ()), ())

    def test_witnesses_are_joined(self):
        first, second, third = self.chain(7, 50, 111)
        statement = joined_alike(first, second, third)
        for witnesses in itertools.product(*[all_witnesses(each) for each in (first, second, third)]):
            self.assertIs(holds(statement, joined_witness(*witnesses)), True)

    def test_bad_permutations(self):
        good = (1, 0, 2)
        for rows in (((0, 0),), ((1,),), (good, (0, 1)), (good, (0, 1, 2, 3)), ((0, 1), good), (good, (0, 0, 1)),
                     (good, good, (1, 2, 3)), ((3, 1, 2), good), (good, good, ()), (tuple(range(7)),)):
            with self.assertRaises(BadPermutation):
                joined_witness(*rows)


if __name__ == "__main__":
    unittest.main()
