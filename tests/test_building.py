"""Point 95: the scheme of a statement, with point 20 for it."""

import unittest

from contract import VALUES, ContractChecks
from interface import InterfaceChecks
from provedunseen.building import scheme_of
from provedunseen.circuits import CircuitScheme
from provedunseen.colorings import ColorScheme
from provedunseen.joins import BothScheme, EitherScheme
from provedunseen.likenesses import AlikeScheme
from provedunseen.meaning import holds
from provedunseen.rings import RingScheme
from provedunseen.statements import alike, both, circuit, colors, either
from samples import AND, ATOMS, EDGE, EMPTY, FALSE_RING, JOINS, NEVER, OR, SMALL, STATEMENTS, TRUE_RING, all_witnesses

ATOM_KINDS = {"ring": RingScheme, "alike": AlikeScheme, "circuit": CircuitScheme, "colors": ColorScheme}
JOIN_KINDS = {"both": BothScheme, "either": EitherScheme}
NOT = circuit(1, [("not", 0)])


class BuildingTest(unittest.TestCase, InterfaceChecks, ContractChecks):
    def test_interface(self):
        self.check_functions("building", {"scheme_of": "(statement)"})

    def check_built(self, scheme, statement):
        kind = statement[0]
        if kind in JOIN_KINDS:
            self.assertIs(type(scheme), JOIN_KINDS[kind])
            self.check_built(scheme.first, statement[1])
            self.check_built(scheme.second, statement[2])
        else:
            self.assertIs(type(scheme), ATOM_KINDS[kind])
            self.assertEqual(scheme.statement, statement)

    def test_each_kind_of_statement(self):
        for statement in STATEMENTS:
            self.check_built(scheme_of(statement), statement)

    def test_questions(self):
        for statement in ATOMS:
            many = len(statement[1][1]) if statement[0] == "colors" else 2
            self.assertEqual(scheme_of(statement).questions, many)
        for statement in JOINS:
            self.assertEqual(scheme_of(statement).questions, 2)

    def test_witnesses_of_the_statement_are_those_of_the_scheme(self):
        for statement in STATEMENTS:
            scheme = scheme_of(statement)
            found = all_witnesses(statement)
            for witness in found[:20] + found[-20:]:
                self.assertIs(scheme.holds(witness), True)
            for value in VALUES:
                self.assertIs(scheme.holds(value), holds(statement, value))

    def test_contract(self):
        for statement in (
            NOT, SMALL, TRUE_RING, FALSE_RING, colors((3, ((0, 1), (1, 2))), 3), colors(EDGE, 2), both(OR, NOT),
            either(NEVER, AND), either(NOT, FALSE_RING), either(both(NOT, OR), alike(EMPTY, EMPTY)),
            both(either(NEVER, NOT), alike(EDGE, EDGE)),
        ):
            with self.subTest(statement=statement):
                same = statement[0] != "colors"
                self.check_scheme(scheme_of(statement), all_witnesses(statement), same=same)


if __name__ == "__main__":
    unittest.main()
