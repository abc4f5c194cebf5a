"""Points 111 and 112: programs and the digests of events."""

import random
import unittest

from interface import InterfaceChecks
from program_samples import digest_by_hand, random_states
from provedunseen.errors import BadProgram
from provedunseen.programs import Program, digest

OFFER = (("offer", 0), (), (0,))
SIX = [
    (("offer", 2), (9, 0, 9), (0, 1, 2, 3, 4, 5)), (("ask", 9, 9), (), (5,)), (("ask", 0, 0), (0,), (0, 0)),
    (("offer", 0), (1, 1), (3,)), (("ask", 3, 1), (), (2, 2, 2, 2, 2, 2)), (("offer", 1), (), (4,)),
]


class ProgramTest(unittest.TestCase, InterfaceChecks):
    def test_interface(self):
        self.check_functions("programs", {"digest": "(event)"})
        self.check_methods("programs", "Program", {
            "__init__": "(self, states)", "move": "(self, state)", "cuts": "(self, state)",
            "__call__": "(self, state, event)",
        })

    def test_states(self):
        for states in ([OFFER], SIX, SIX[3:4] * 6):
            given = list(states)
            program = Program(given)
            self.assertEqual(given, states)
            self.assertEqual(program.states, tuple(states))
            self.assertIs(type(program.states), tuple)
            for number, (move, cuts, _) in enumerate(states):
                self.assertEqual((program.move(number), program.cuts(number)), (move, cuts))
            given.clear()
            self.assertEqual(program.states, tuple(states))
            self.assertEqual(program.move(0), states[0][0])

    def test_the_number_of_states(self):
        for many in range(1, 7):
            self.assertEqual(len(Program([OFFER] * many).states), many)
        for many in (0, 7, 8):
            with self.assertRaises(BadProgram):
                Program([OFFER] * many)

    def test_each_bound_broken_once(self):
        move, cuts, followers = ("ask", 1, 1), (1,), (0, 1)
        good = (move, cuts, followers)
        Program([OFFER, good])
        for bad in (
            (), (move,), (move, cuts), (move, cuts, followers, ()),
            ((), cuts, followers), (("offer",), cuts, followers), (("offer", 0, 0), cuts, followers),
            (("ask", 0), cuts, followers), (("ask",), cuts, followers), (("ask", 0, 0, 0), cuts, followers),
            (("offer", 3), cuts, followers), (("offer", -1), cuts, followers),
            (("ask", 10, 0), cuts, followers), (("ask", -1, 0), cuts, followers), (("ask", 0, 10), cuts, followers),
            (("ask", 0, -1), cuts, followers), (("restart",), cuts, followers), (("Offer", 0), cuts, followers),
            (("asks", 0, 0), cuts, followers), (("", 0), cuts, followers),
            (move, (0, 0, 0, 0), followers), (move, (10,), followers), (move, (-1,), followers),
            (move, (0, 9, 10), followers), (move, (0, -1, 0), followers),
            (move, cuts, ()), (move, cuts, (0,) * 7), (move, cuts, (2,)), (move, cuts, (-1,)), (move, cuts, (0, 1, 6)),
        ):
            for states in ([OFFER, bad], [bad, OFFER]):
                with self.subTest(states=states):
                    with self.assertRaises(BadProgram):
                        Program(states)

    def test_a_follower_must_be_a_state_of_this_program(self):
        for many in range(1, 7):
            Program([OFFER] * (many - 1) + [(("offer", 0), (), (many - 1,))])
            with self.assertRaises(BadProgram):
                Program([OFFER] * (many - 1) + [(("offer", 0), (), (many,))])


class DigestTest(unittest.TestCase):
    def test_by_hand(self):
        self.assertEqual(digest(((), 0, ())), 2)
        self.assertEqual(digest(((), 3, ())), 5)
        # Letters other than replies do not count: only the 1 of the seals does.
        self.assertEqual(digest((("sealed", 0, 2), 1, ())), 3)
        self.assertEqual(digest((("none", 9), 1, ())), 3)
        # 3; 3 * 7 + 1 + 2 = 24.
        self.assertEqual(digest((("reply", 5, 1, ()), 1, ())), 24)
        # 3, 24, 170, 1193 - 1009 = 184; 184 * 7 + 5 + 2 = 1295, less 1009 is 286.
        self.assertEqual(digest((("reply", 0, 1, (0, 1)), 1, ((0, 2, 5),))), 286)
        # 4; 4 * 7 - 1 + 2 = 29; 29 * 7 + 99 + 2 = 304: a blank is the integer -1.
        self.assertEqual(digest(((), 2, ((0, 7, -1), (1, 0, 99)))), 304)

    def test_of_chance(self):
        chance = random.Random(3)
        for _ in range(200):
            word = tuple(chance.choices(range(-1, 9), k=chance.randint(0, 9)))
            reply = ("reply", chance.randint(0, 9), chance.randint(0, 9), word)
            letter = chance.choice([(), ("sealed", 1, 2), ("none", 4), reply])
            shown = tuple((0, box, chance.randint(-1, 99)) for box in range(chance.randint(0, 9)))
            event = (letter, chance.randint(0, 9), shown)
            self.assertEqual(digest(event), digest_by_hand(event))

    def test_the_next_state(self):
        chance = random.Random(5)
        for _ in range(100):
            states = random_states(chance)
            program = Program(states)
            state = chance.randrange(len(states))
            event = ((), chance.randint(0, 50), ((0, 0, chance.randint(-1, 99)),))
            followers = states[state][2]
            self.assertEqual(program(state, event), followers[digest(event) % len(followers)])
        program = Program([(("offer", 0), (), (0, 1, 2)), (("ask", 0, 0), (), (2, 2, 0)), (("offer", 1), (), (1,))])
        # The digests are 2, 3 and 24.
        events = [((), 0, ()), ((), 1, ()), (("reply", 0, 1, ()), 1, ())]
        self.assertEqual([program(0, event) for event in events], [2, 0, 0])
        self.assertEqual([program(1, event) for event in events], [0, 2, 2])
        self.assertEqual([program(2, event) for event in events], [1, 1, 1])


if __name__ == "__main__":
    unittest.main()
