"""Point 94: joins of one, two and several schemes."""

import itertools
import unittest

from contract import ContractChecks
from interface import InterfaceChecks
from provedunseen.circuits import CircuitScheme
from provedunseen.colorings import ColorScheme
from provedunseen.errors import BadStatement, BadWitness
from provedunseen.joins import BothScheme, EitherScheme
from provedunseen.likenesses import AlikeScheme
from provedunseen.rings import RingScheme
from provedunseen.several import all_of, all_witness, any_of, any_witness
from provedunseen.statements import alike, colors
from samples import AND, EDGE, EMPTY, NEVER, OR, TRUE_RING, full
from table_samples import COINS, made

POINT = AlikeScheme(alike(EMPTY, EMPTY))
EDGES = AlikeScheme(alike(EDGE, EDGE))
FALSE = AlikeScheme(alike(EDGE, (2, ())))
RING = RingScheme(TRUE_RING)
OF_OR, OF_AND, OF_NEVER = CircuitScheme(OR), CircuitScheme(AND), CircuitScheme(NEVER)
SIX_QUESTIONS = ColorScheme(colors(full(4), 4))
ONE_QUESTION = ColorScheme(colors(EDGE, 2))


def parts_from_the_left(kind, scheme, many):
    """The schemes of a join of so many, from left to right, if it is nested to the left and of one kind."""
    parts = []
    for _ in range(many - 1):
        if type(scheme) is not kind:
            raise AssertionError(f"{scheme} is no {kind}")
        parts.insert(0, scheme.second)
        scheme = scheme.first
    return [scheme, *parts]


class SeveralTest(unittest.TestCase, InterfaceChecks, ContractChecks):
    def test_interface(self):
        self.check_functions("several", {
            "all_of": "(first, *others)", "any_of": "(first, *others)", "all_witness": "(first, *others)",
            "any_witness": "(place, count, witness)",
        })

    def test_one_scheme_is_returned_itself(self):
        for scheme in (POINT, RING, OF_OR, made(COINS), SIX_QUESTIONS, ONE_QUESTION, BothScheme(POINT, OF_OR)):
            self.assertIs(all_of(scheme), scheme)
            self.assertIs(any_of(scheme), scheme)

    def test_two_and_several_are_joined_from_the_left(self):
        schemes = [OF_OR, POINT, RING, made(COINS), OF_OR]
        for many in range(2, 6):
            for join, kind in ((all_of, BothScheme), (any_of, EitherScheme)):
                scheme = join(*schemes[:many])
                parts = parts_from_the_left(kind, scheme, many)
                for part, expected in zip(parts, schemes):
                    self.assertIs(part, expected)
                self.assertEqual(scheme.questions, 2)
                self.assertEqual(scheme.boxes, sum(part.boxes for part in schemes[:many]))

    def test_a_part_without_two_questions(self):
        for bad in (SIX_QUESTIONS, ONE_QUESTION):
            for join in (all_of, any_of):
                for row in ([bad, POINT], [POINT, bad], [POINT, OF_OR, bad], [bad, bad], [POINT, bad, OF_OR]):
                    with self.assertRaises(BadStatement):
                        join(*row)

    def test_all_witness(self):
        self.assertEqual(all_witness(5), 5)
        self.assertEqual(all_witness((0, 1)), (0, 1))
        self.assertEqual(all_witness("u", "v"), ("u", "v"))
        self.assertEqual(all_witness("u", "v", "w"), (("u", "v"), "w"))
        self.assertEqual(all_witness(1, 2, 3, 4, 5), ((((1, 2), 3), 4), 5))
        # No witness is checked.
        self.assertEqual(all_witness(-1, ()), (-1, ()))

    def test_any_witness(self):
        self.assertEqual(any_witness(1, 3, (7,)), (0, (1, (7,))))
        self.assertEqual([any_witness(place, 1, "w") for place in (0,)], ["w"])
        self.assertEqual([any_witness(place, 2, "w") for place in (0, 1)], [(0, "w"), (1, "w")])
        self.assertEqual([any_witness(place, 3, "w") for place in (0, 1, 2)],
                         [(0, (0, "w")), (0, (1, "w")), (1, "w")])
        self.assertEqual(any_witness(2, 5, -1), (0, (0, (1, -1))))
        for count in range(1, 21):
            for place in range(count):
                witness, depth = any_witness(place, count, "w"), 0
                # The join is left from its outermost part on.
                while witness != "w":
                    self.assertEqual(witness[0], 1 if count - 1 - depth == place else 0)
                    witness, depth = witness[1], depth + 1
                self.assertEqual(depth, count - max(place, 1))

    def test_any_witness_of_no_place(self):
        for count in (-1, 0, 1, 2, 3, 20):
            for place in (-7, -1, count, count + 1, 99):
                if not 0 <= place < count:
                    with self.assertRaises(BadWitness):
                        any_witness(place, count, (0,))

    def test_witnesses_fit_the_joined_schemes(self):
        rows = [(OF_OR, [(0, 1), (1, 1)]), (POINT, [(0,)]), (EDGES, [(0, 1), (1, 0)]), (RING, [(0, 1, 2, 3)]),
                (made(COINS), [0, 1])]
        for many in range(1, 4):
            for chosen in itertools.permutations(rows, many):
                schemes = [scheme for scheme, _ in chosen]
                every, some = all_of(*schemes), any_of(*schemes)
                for witnesses in itertools.product(*[own for _, own in chosen]):
                    self.assertIs(every.holds(all_witness(*witnesses)), True)
                    for place, witness in enumerate(witnesses):
                        self.assertIs(some.holds(any_witness(place, many, witness)), True)

    def test_joined_schemes_keep_the_contract(self):
        self.check_scheme(all_of(OF_OR, POINT, OF_AND), [all_witness(u, (0,), (1, 1)) for u in ((0, 1), (1, 0))])
        witnesses = [any_witness(0, 3, (1, 0)), any_witness(2, 3, (1, 1))]
        self.check_scheme(any_of(OF_OR, FALSE, OF_AND), witnesses)
        self.check_scheme(any_of(OF_NEVER, EDGES), [any_witness(1, 2, (1, 0))])


if __name__ == "__main__":
    unittest.main()
