"""Points 113 and 114: talks of programs with knowers and simulators."""

import itertools
import unittest

from interface import InterfaceChecks
from program_samples import COLORS, EDGES, EITHER, OF_OR, QUIET, RING, talks, view_by_hand
from provedunseen.errors import BadProgram, BadWitness, TapeEnd
from provedunseen.programs import Program
from provedunseen.talks import knower_view, simulator_view

ASKING = Program([(("offer", 0), (), (1,)), (("ask", 0, 1), (), (2,)), (("ask", 0, 0), (), (1,))])
SEALED = (("sealed", 0, 0), 1, ())
ASKED = (("reply", 0, 1, ()), 1, ((0, 0, 1), (0, 3, 1), (0, 4, 0)))
AGAIN = (("reply", 0, 1, ()), 1, ())


class TalkTest(unittest.TestCase, InterfaceChecks):
    def test_interface(self):
        self.check_functions("talks", {
            "knower_view": "(schemes, witnesses, numbers, program, steps, *, careful=True)",
            "simulator_view": "(schemes, numbers, program, steps)",
        })

    def test_by_hand(self):
        views = [(), (SEALED,), (SEALED, ASKED), (SEALED, ASKED, AGAIN), (SEALED, ASKED, AGAIN, AGAIN)]
        for steps, view in enumerate(views):
            self.assertEqual(knower_view([EDGES], [(1, 0)], (0,), ASKING, steps), view)
            # The matching draw for question 1 is 1.
            self.assertEqual(simulator_view([EDGES], (1,), ASKING, steps), view)

    def test_an_offer_cut_at_every_write(self):
        for cuts, event in (
            ((), SEALED), ((0,), ((), 0, ())), ((1,), ((), 1, ())), ((2,), ((), 1, ())), ((3,), SEALED),
            ((9, 0, 0), SEALED), ((0, 0, 0), ((), 0, ())), ((1, 0), ((), 1, ())), ((1, 0, 0), ((), 1, ())),
            ((1, 1), ((), 1, ())), ((2, 0, 0), ((), 1, ())),
        ):
            program = Program([(("offer", 0), cuts, (0,))])
            self.assertEqual(knower_view([EDGES], [(1, 0)], (0,), program, 1), (event,))
            self.assertEqual(simulator_view([EDGES], (0,), program, 1), (event,))

    def test_a_question_cut_at_every_write(self):
        hidden, revealed = ((), 1, ()), ((), 1, ASKED[2])
        for cuts, careful, careless in (
            ((), ASKED, ASKED), ((0,), hidden, hidden), ((1,), hidden, revealed), ((2,), revealed, ASKED),
            ((3,), ASKED, ASKED), ((9,), ASKED, ASKED), ((2, 0, 0), revealed, ASKED),
        ):
            program = Program([(("offer", 0), (), (1,)), (("ask", 0, 1), cuts, (0,))])
            view = (SEALED, careful)
            self.assertEqual(knower_view([EDGES], [(1, 0)], (0,), program, 2), view)
            self.assertEqual(knower_view([EDGES], [(1, 0)], (0,), program, 2, careful=True), view)
            self.assertEqual(simulator_view([EDGES], (1,), program, 2), view)
            view = (SEALED, careless)
            self.assertEqual(knower_view([EDGES], [(1, 0)], (0,), program, 2, careful=False), view)

    def test_a_careless_knower_answers_twice(self):
        program = Program([(("offer", 0), (), (1,)), (("ask", 0, 1), (2,), (2,)), (("ask", 0, 0), (), (2,))])
        view = knower_view([EDGES], [(1, 0)], (0,), program, 4, careful=False)
        other = (("reply", 0, 0, ()), 1, ((0, 1, 0), (0, 2, 1)))
        self.assertEqual(view, (SEALED, ASKED, other, (("reply", 0, 0, ()), 1, ())))
        # A careful one stays with its question.
        revealed = ((), 1, ASKED[2])
        self.assertEqual(knower_view([EDGES], [(1, 0)], (0,), program, 4), (SEALED, revealed, AGAIN, AGAIN))

    def test_questions_about_deals_that_are_none(self):
        program = Program([
            (("ask", 0, 0), (), (1,)), (("offer", 2), (), (2,)), (("ask", 0, 2), (1,), (3,)),
            (("ask", 1, 0), (0,), (4,)), (("ask", 9, 9), (), (5,)), (("ask", 0, 0), (2,), (0,)),
        ])
        view = knower_view([EDGES, OF_OR], [(0, 1), (0, 1)], (0, 0), program, 5)
        self.assertEqual(view, (
            (("none", 0), 0, ()), (("sealed", 0, 0), 1, ()), (("none", 0), 1, ()), ((), 1, ()), (("none", 9), 1, ()),
        ))
        self.assertEqual(simulator_view([EDGES, OF_OR], (0, 0), program, 5), view)

    def test_sessions_are_taken_modulo_their_number(self):
        program = Program([(("offer", 2), (), (1,)), (("offer", 1), (), (2,)), (("offer", 0), (), (0,))])
        for many, sessions in ((1, [0, 0, 0, 0]), (2, [0, 1, 0, 0]), (3, [2, 1, 0, 2])):
            schemes, witnesses = [EDGES, OF_OR, QUIET][:many], [(0, 1), (0, 1), 0][:many]
            view = knower_view(schemes, witnesses, (0, 0, 0, 0), program, 4)
            self.assertEqual(view, tuple((("sealed", deal, session), deal + 1, ())
                                         for deal, session in enumerate(sessions)))
            self.assertEqual(simulator_view(schemes, (0, 0, 0, 0), program, 4), view)

    def test_a_question_without_boxes(self):
        program = Program([(("offer", 0), (), (1,)), (("ask", 0, 0), (2,), (0,))])
        for view in (knower_view([QUIET], [1], (0,), program, 2), simulator_view([QUIET], (0,), program, 2)):
            self.assertEqual(view, (SEALED, (("reply", 0, 0, (0,)), 1, ())))

    def test_errors_in_their_order(self):
        for witnesses in ([], [(0, 0)], [(0, 1), (0, 1)]):
            for steps, numbers in itertools.product((-1, 0, 1, 9), ((), (0,))):
                with self.assertRaises(BadWitness):
                    knower_view([OF_OR], witnesses, numbers, ASKING, steps)
        for steps in (-1, 9, 10, 99):
            for numbers in ((), (0, 0, 0)):
                with self.assertRaises(BadProgram):
                    knower_view([OF_OR], [(0, 1)], numbers, ASKING, steps)
                with self.assertRaises(BadProgram):
                    simulator_view([OF_OR], numbers, ASKING, steps)
        offers = Program([(("offer", 0), (0,), (0,))])
        for many in range(9):
            for steps in range(9):
                numbers = (1,) * many
                if steps <= many:
                    self.assertEqual(knower_view([OF_OR], [(0, 1)], numbers, offers, steps), (((), 0, ()),) * steps)
                    self.assertEqual(simulator_view([OF_OR], numbers, offers, steps), (((), 0, ()),) * steps)
                else:
                    with self.assertRaises(TapeEnd):
                        knower_view([OF_OR], [(0, 1)], numbers, offers, steps)
                    with self.assertRaises(TapeEnd):
                        simulator_view([OF_OR], numbers, offers, steps)

    def test_programs_of_chance(self):
        for schemes, witnesses, others, states, numbers, steps in talks(23, 320):
            program = Program(states)
            for known, careful in ((witnesses, True), (others, True), (witnesses, False), (others, False)):
                kind = "knower" if careful else "careless"
                self.assertEqual(knower_view(schemes, known, numbers, program, steps, careful=careful),
                                 view_by_hand(kind, schemes, known, numbers, states, steps))
            self.assertEqual(simulator_view(schemes, numbers, program, steps),
                             view_by_hand("simulator", schemes, None, numbers, states, steps))

    def test_the_view_at_the_matching_draw(self):
        for scheme, witnesses in (
            (EDGES, [(0, 1), (1, 0)]), (OF_OR, [(0, 1), (1, 0), (1, 1)]), (RING, [(0, 1, 2, 3)]),
            (EITHER, [(0, (0, 1)), (0, (1, 0)), (1, (1, 1))]), (COLORS, [(0, 1, 2), (1, 0, 2)]), (QUIET, [0, 1]),
        ):
            for witness in witnesses:
                for question in range(scheme.questions):
                    program = Program([
                        (("offer", 0), (), (1,)), (("ask", 0, question), (1,), (2,)), (("ask", 0, 0), (2,), (3,)),
                        (("ask", 0, 1), (), (3,)),
                    ])
                    for draw in range(scheme.draws):
                        matching = scheme.matching_draw(witness, question, draw)
                        self.assertEqual(knower_view([scheme], [witness], (draw,), program, 5),
                                         simulator_view([scheme], (matching,), program, 5))

    def test_arguments_stay_as_they_were(self):
        schemes, witnesses, numbers = [EDGES, OF_OR], [(1, 0), (1, 1)], (3, 4, 5)
        first = knower_view(schemes, witnesses, numbers, ASKING, 3)
        self.assertEqual((schemes, witnesses, numbers), ([EDGES, OF_OR], [(1, 0), (1, 1)], (3, 4, 5)))
        self.assertEqual(knower_view(schemes, witnesses, numbers, ASKING, 3), first)
        self.assertEqual(simulator_view(schemes, numbers, ASKING, 3), simulator_view(schemes, numbers, ASKING, 3))
        self.assertEqual(ASKING.states[0], (("offer", 0), (), (1,)))


if __name__ == "__main__":
    unittest.main()
