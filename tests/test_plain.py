"""Points 115 and 116: plain talks, and the tapes that match."""

import random
import unittest

from interface import InterfaceChecks
from program_samples import EDGES, EITHER, OF_OR, QUIET, RING, SETS, random_states, talks
from provedunseen.errors import BadProgram, TapeEnd
from provedunseen.plain import matching_tape, original_tape, plain_deals, plain_view
from provedunseen.programs import Program
from provedunseen.talks import knower_view, simulator_view

ASKING = Program([(("offer", 0), (), (1,)), (("ask", 0, 1), (), (2,)), (("ask", 0, 0), (), (1,))])
SHOWN = ((0, 0, 1), (0, 3, 1), (0, 4, 0))
CALLS = {
    "plain_view": lambda numbers, program, steps: plain_view([OF_OR], numbers, program, steps),
    "plain_deals": lambda numbers, program, steps: plain_deals([OF_OR], [(0, 1)], numbers, program, steps),
    "simulated deals": lambda numbers, program, steps: plain_deals([OF_OR], None, numbers, program, steps),
    "matching_tape": lambda numbers, program, steps: matching_tape([OF_OR], [(0, 1)], numbers, program, steps),
    "original_tape": lambda numbers, program, steps: original_tape([OF_OR], [(0, 1)], numbers, program, steps),
}


class PlainTest(unittest.TestCase, InterfaceChecks):
    def test_interface(self):
        self.check_functions("plain", {
            "plain_view": "(schemes, numbers, program, steps)",
            "plain_deals": "(schemes, witnesses, numbers, program, steps)",
            "matching_tape": "(schemes, witnesses, numbers, program, steps)",
            "original_tape": "(schemes, witnesses, numbers, program, steps)",
        })

    def test_by_hand(self):
        sealed, replied = (("sealed", 0, 0), 1, ()), ("reply", 0, 1, ())
        view = (sealed, (replied, 1, SHOWN), (replied, 1, ()), (replied, 1, ()))
        # The number is taken modulo the 2 draws.
        for number in (1, 3, 10 ** 20 + 1):
            for steps in range(5):
                self.assertEqual(plain_view([EDGES], (number, 7), ASKING, steps), view[:steps])

    def test_cuts_by_hand(self):
        sealed, replied = ("sealed", 0, 0), ("reply", 0, 1, ())
        for cut, offered in ((0, ((), 0, ())), (1, ((), 1, ())), (2, ((), 1, ())), (3, (sealed, 1, ()))):
            program = Program([(("offer", 0), (cut,), (1,)), (("ask", 0, 0), (), (1,))])
            self.assertEqual(plain_view([EDGES], (1,), program, 1), (offered,))
            self.assertEqual(len(plain_deals([EDGES], None, (1,), program, 1)), 0 if cut == 0 else 1)
        for cut, asked, again in (
            (0, ((), 1, ()), ((), 1, ())), (1, ((), 1, ()), ((), 1, SHOWN)), (2, ((), 1, SHOWN), (replied, 1, ())),
            (3, (replied, 1, SHOWN), (replied, 1, ())), (9, (replied, 1, SHOWN), (replied, 1, ())),
        ):
            program = Program([(("offer", 0), (), (1,)), (("ask", 0, 1), (cut, 0), (1,))])
            view = plain_view([EDGES], (1,), program, 3)
            self.assertEqual(view[1:], (asked, again))
            self.assertEqual(plain_deals([EDGES], None, (1,), program, 2), ((0, 0, 1 if cut > 0 else None),))

    def test_a_deal_that_is_none(self):
        for cut, letter in ((0, ()), (1, ("none", 3)), (2, ("none", 3))):
            program = Program([(("ask", 3, 0), (cut,), (0,))])
            self.assertEqual(plain_view([EDGES], (), program, 2), ((letter, 0, ()),) * 2)
        for cut, letter in ((0, ()), (1, ("none", 0))):
            program = Program([(("offer", 0), (), (1,)), (("ask", 0, 2), (cut,), (1,))])
            self.assertEqual(plain_view([EDGES], (0,), program, 2)[1], (letter, 1, ()))
            self.assertEqual(plain_deals([EDGES], None, (0,), program, 2), ((0, 0, None),))

    def test_a_reply_without_boxes(self):
        # The first act fixes the question, the second one posts the letter.
        program = Program([(("offer", 0), (), (1,)), (("ask", 0, 0), (1,), (2,)), (("ask", 0, 1), (1,), (2,))])
        letter = ("reply", 0, 0, (0,))
        self.assertEqual(plain_view([QUIET], (1,), program, 4)[1:], (((), 1, ()), (letter, 1, ()), (letter, 1, ())))

    def test_places_on_the_tape(self):
        program = Program([
            (("offer", 1), (), (1,)), (("offer", 0), (0,), (2,)), (("offer", 2), (1,), (3,)), (("ask", 1, 1), (), (4,)),
            (("offer", 0), (2,), (5,)), (("ask", 0, 0), (0,), (5,)),
        ])
        deals = ((1, 0, None), (2, 2, 1), (0, 3, None))
        schemes = [EDGES, OF_OR, RING]
        for witnesses in ([(0, 1), (1, 1), (0, 1, 2, 3)], None):
            for steps, known in ((0, ()), (2, ((1, 0, None),)), (3, ((1, 0, None), (2, 2, None))), (8, deals)):
                self.assertEqual(plain_deals(schemes, witnesses, (9, 9, 9, 9), program, steps), known)

    def test_the_plain_view_is_the_view_of_the_simulator(self):
        for schemes, witnesses, others, states, numbers, steps in talks(31, 400):
            program = Program(states)
            self.assertEqual(plain_view(schemes, numbers, program, steps),
                             simulator_view(schemes, numbers, program, steps))

    def test_the_knower_has_the_plain_view_of_the_matching_tape(self):
        for schemes, witnesses, others, states, numbers, steps in talks(37, 240):
            program = Program(states)
            for known in (witnesses, others):
                arguments = (program, steps)
                matching = matching_tape(schemes, known, numbers, *arguments)
                original = original_tape(schemes, known, numbers, *arguments)
                self.assertEqual(knower_view(schemes, known, numbers, *arguments),
                                 plain_view(schemes, matching, *arguments))
                self.assertEqual(knower_view(schemes, known, original, *arguments),
                                 plain_view(schemes, numbers, *arguments))
                self.assertEqual(original_tape(schemes, known, matching, *arguments), numbers)
                self.assertEqual(matching_tape(schemes, known, original, *arguments), numbers)
                self.assertEqual(plain_deals(schemes, known, numbers, *arguments),
                                 plain_deals(schemes, None, matching, *arguments))

    def test_a_cut_at_each_place(self):
        moves = [("offer", 0), ("ask", 0, 1), ("ask", 0, 1), ("ask", 0, 0), ("ask", 4, 0), ("ask", 0, 1)]
        for schemes, witnesses, others in SETS:
            for place in range(len(moves)):
                for cuts in ((0,), (1,), (2,), (1, 0), (0, 0, 0)):
                    program = Program([(move, cuts if at == place else (), (min(at + 1, 5),))
                                       for at, move in enumerate(moves)])
                    for number in (0, 1, 5, 30):
                        for known in (witnesses, others):
                            tape = (number, 77)
                            matching = matching_tape(schemes, known, tape, program, 6)
                            view = knower_view(schemes, known, tape, program, 6)
                            self.assertEqual(plain_view(schemes, matching, program, 6), view)
                            self.assertEqual(simulator_view(schemes, matching, program, 6), view)
                            self.assertEqual(original_tape(schemes, known, matching, program, 6), tape)

    def test_only_numbers_of_asked_deals_change(self):
        chance = random.Random(2)
        for _ in range(120):
            schemes, witnesses, _ = chance.choice(SETS)
            program = Program(random_states(chance))
            numbers = tuple(chance.randrange(10 ** 6) for _ in range(9))
            for known, tape in ((witnesses, matching_tape), (None, original_tape)):
                found = tape(schemes, witnesses, numbers, program, 7)
                self.assertIs(type(found), tuple)
                asked = {place: session for session, place, question
                         in plain_deals(schemes, known, numbers, program, 7) if question is not None}
                self.assertEqual(len(found), len(numbers))
                for place, (old, new) in enumerate(zip(numbers, found)):
                    many = schemes[asked[place]].draws if place in asked else 1
                    # The draw alone changes, not what it is the remainder of.
                    self.assertEqual(old // many, new // many)
                    if place not in asked:
                        self.assertEqual(old, new)

    def test_tapes_by_hand(self):
        program = Program([(("offer", 0), (), (1,)), (("ask", 0, 1), (), (0,))])
        for number in (0, 1, 6, 7, 10 ** 12):
            other = number + 1 if number % 2 == 0 else number - 1
            self.assertEqual(matching_tape([EDGES], [(1, 0)], (number, 5, 8), program, 2), (other, 5, 8))
            self.assertEqual(matching_tape([EDGES], [(1, 0)], (number, 5, 8), program, 1), (number, 5, 8))
            self.assertEqual(matching_tape([EDGES], [(0, 1)], (number, 5, 8), program, 2), (number, 5, 8))
            self.assertEqual(original_tape([EDGES], [(1, 0)], (number,), program, 2), (other,))
        scheme, witness = EITHER, (1, (1, 0))
        for draw in range(scheme.draws):
            numbers = (draw + 3 * scheme.draws,)
            matching = scheme.matching_draw(witness, 1, draw)
            original = scheme.original_draw(witness, 1, draw)
            self.assertEqual(matching_tape([scheme], [witness], numbers, program, 2), (3 * scheme.draws + matching,))
            self.assertEqual(original_tape([scheme], [witness], numbers, program, 2), (3 * scheme.draws + original,))

    def test_errors_in_their_order(self):
        offers = Program([(("offer", 0), (0,), (0,))])
        for name, call in CALLS.items():
            with self.subTest(name=name):
                for steps in (-1, 9, 20):
                    for numbers in ((), (1, 2)):
                        with self.assertRaises(BadProgram):
                            call(numbers, offers, steps)
                for many in range(3):
                    call((4,) * many, offers, many)
                    for steps in (many + 1, 8):
                        with self.assertRaises(TapeEnd):
                            call((4,) * many, offers, steps)

    def test_arguments_stay_as_they_were(self):
        schemes, witnesses, numbers = [EDGES, OF_OR], [(1, 0), (1, 1)], (3, 4, 5)
        for call in (matching_tape, original_tape, plain_deals):
            first = call(schemes, witnesses, numbers, ASKING, 3)
            self.assertEqual((schemes, witnesses, numbers), ([EDGES, OF_OR], [(1, 0), (1, 1)], (3, 4, 5)))
            self.assertEqual(call(schemes, witnesses, numbers, ASKING, 3), first)


if __name__ == "__main__":
    unittest.main()
