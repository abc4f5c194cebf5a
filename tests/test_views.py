"""Points 117 and 118: distributions of views."""

import itertools
import random
import unittest
from collections import Counter

from interface import InterfaceChecks
from program_samples import BOTH, COLORS, EDGES, EITHER, NOT, OF_OR, POINT, QUIET, RING, random_states
from provedunseen.building import scheme_of
from provedunseen.errors import BadProgram, BadWitness, TapeEnd, TooLarge
from provedunseen.joins import BothScheme
from provedunseen.programs import Program
from provedunseen.statements import alike, either
from provedunseen.tables import TableScheme
from provedunseen.talks import knower_view, simulator_view
from provedunseen.views import (
    all_tapes, along_distribution, simulated_view_distribution, tape_size, view_distribution,
)
from samples import NEVER, OR, full
from table_samples import COINS, WORDS, made

NEVER_OR = scheme_of(either(NEVER, OR))
FIVE = scheme_of(alike(full(5), full(5)))
SIX = scheme_of(alike(full(6), full(6)))
HUGE = BothScheme(FIVE, FIVE)
# Each is a list of schemes, and lists of witnesses for them.
SMALL = [
    ([EDGES], [[(0, 1)], [(1, 0)]]),
    ([OF_OR], [[(0, 1)], [(1, 0)], [(1, 1)]]),
    ([NOT, POINT], [[(0,), (0,)]]),
    ([QUIET, EDGES], [[0, (0, 1)], [1, (1, 0)]]),
    ([EITHER], [[(0, (1, 0))], [(1, (1, 1))], [(1, (0, 1))]]),
    ([made(COINS), made(WORDS)], [[0, 0], [1, 1], [0, 1]]),
    ([COLORS], [[(0, 1, 2)], [(2, 0, 1)]]),
    ([BOTH], [[((1, 1), (0, 1))], [((1, 1), (1, 1))]]),
    ([NEVER_OR, NOT], [[(1, (0, 1)), (0,)], [(1, (1, 1)), (0,)]]),
    ([RING], [[(0, 1, 2, 3)]]),
]
OFFER = Program([(("offer", 0), (), (0,))])


def distinct(many):
    """A table of one question, with so many draws and as many replies."""
    fillings = tuple(((draw // 4, draw % 4, 0), (0,)) for draw in range(16))[:many]
    fillings += tuple(((draw // 4, draw % 4, 1), (0,)) for draw in range(many - 16))
    return TableScheme(3, 4, (((((0, 1, 2), ())),),), (fillings,))


class TapesTest(unittest.TestCase, InterfaceChecks):
    def test_interface(self):
        self.check_functions("views", {
            "tape_size": "(schemes)", "all_tapes": "(size, length)",
            "view_distribution": "(schemes, witnesses, program, steps, length)",
            "simulated_view_distribution": "(schemes, program, steps, length)",
            "along_distribution": "(schemes, program, steps)",
        })

    def test_tape_size(self):
        for schemes, size in (
            ([POINT], 1), ([OF_OR], 4), ([RING], 24), ([COLORS, OF_OR], 12), ([OF_OR, COLORS], 12),
            ([RING, COLORS], 24), ([EDGES, made(COINS), POINT], 2), ([HUGE, RING], 14400), ([FIVE, SIX, OF_OR], 720),
        ):
            self.assertEqual(tape_size(schemes), size)

    def test_all_tapes(self):
        for size, length in ((1, 0), (1, 1), (1, 7), (2, 3), (3, 4), (5, 2), (7, 0), (10 ** 9, 0), (9, 1)):
            tapes = all_tapes(size, length)
            self.assertEqual(tapes, list(itertools.product(range(size), repeat=length)))
            tapes.append("changed")
            self.assertEqual(len(all_tapes(size, length)), size ** length)

    def test_at_most_3000_tapes(self):
        for size, length in ((3000, 1), (54, 2), (2, 11), (14, 3), (1, 400)):
            self.assertEqual(len(all_tapes(size, length)), size ** length)
        for size, length in ((3001, 1), (55, 2), (2, 12), (15, 3), (10 ** 30, 1), (2, 10 ** 6)):
            with self.assertRaises(TooLarge):
                all_tapes(size, length)


class ViewsTest(unittest.TestCase):
    def check_counts(self, distribution, views):
        """Check that the distribution is that of the views, all equally likely."""
        counts = Counter(views)
        self.assertEqual([key for key, _ in distribution.pairs], list(dict.fromkeys(views)))
        for view, count in counts.items():
            self.assertEqual(distribution.chance(view).part * len(views), distribution.chance(view).whole * count)

    def test_over_all_tapes_in_ascending_order(self):
        chance = random.Random(19)
        for schemes, known in SMALL[:8]:
            size = tape_size(schemes)
            for length in (0, 1, 2):
                if size ** length > 150:
                    continue
                states = random_states(chance)
                offers = sum(move[0] == "offer" for move, _, _ in states)
                program = Program(states)
                steps = chance.randint(0, 8) if offers == 0 else length
                tapes = list(itertools.product(range(size), repeat=length))
                self.check_counts(view_distribution(schemes, known[0], program, steps, length),
                                  [knower_view(schemes, known[0], tape, program, steps) for tape in tapes])
                self.check_counts(simulated_view_distribution(schemes, program, steps, length),
                                  [simulator_view(schemes, tape, program, steps) for tape in tapes])

    def test_by_hand(self):
        program = Program([(("offer", 0), (), (1,)), (("ask", 0, 0), (), (1,))])
        sealed = (("sealed", 0, 0), 1, ())
        views = [(sealed, (("reply", 0, 0, ()), 1, ((0, 0, 1), (0, 1, a), (0, 2, 1 - a)))) for a in (0, 1)]
        for found in (view_distribution([EDGES], [(1, 0)], program, 2, 1),
                      simulated_view_distribution([EDGES], program, 2, 1), along_distribution([EDGES], program, 2)):
            self.assertEqual(sorted(found.pairs), [(views[0], 1), (views[1], 1)])
        self.assertEqual(view_distribution([EDGES], [(1, 0)], program, 0, 0).pairs, [((), 1)])
        self.assertEqual(along_distribution([EDGES], program, 0).pairs, [((), 1)])
        self.assertEqual(along_distribution([EDGES], program, 1).pairs, [((sealed,), 1)])

    def test_the_three_distributions_are_equal(self):
        chance = random.Random(43)
        for schemes, known in SMALL:
            size = tape_size(schemes)
            for _ in range(12):
                program = Program(random_states(chance))
                # As many offers as a tape has numbers, for at most some hundreds of tapes.
                for steps in (8, 6, 4, 3, 2, 1):
                    length = self.most_offers(program, schemes, steps)
                    if size ** length <= 300:
                        break
                along = along_distribution(schemes, program, steps)
                self.assertTrue(simulated_view_distribution(schemes, program, steps, length) == along)
                for witnesses in known:
                    self.assertTrue(view_distribution(schemes, witnesses, program, steps, length) == along)
                # What is not taken from a tape changes nothing.
                if size ** (length + 1) <= 300:
                    self.assertTrue(simulated_view_distribution(schemes, program, steps, length + 1) == along)

    def most_offers(self, program, schemes, steps):
        """The number of tape entries that are enough for all talks of so many steps."""
        reached, taken = {0: 0}, 0
        for _ in range(steps):
            after = {}
            for state, many in reached.items():
                more = many + (program.move(state)[0] == "offer")
                taken = max(taken, more)
                for follower in program.states[state][2]:
                    after[follower] = max(after.get(follower, 0), more)
            reached = after
        return taken

    def test_a_program_that_waits_for_what_it_sees(self):
        program = Program([
            (("offer", 0), (), (1, 2)), (("ask", 0, 0), (2,), (3, 0, 4)), (("ask", 0, 1), (1,), (1, 2, 4)),
            (("ask", 0, 0), (), (3, 1)), (("ask", 0, 1), (3,), (4, 2)),
        ])
        for schemes, known in SMALL:
            if tape_size(schemes) ** 2 <= 600:
                views = [view_distribution(schemes, witnesses, program, 5, 2) for witnesses in known]
                views.append(simulated_view_distribution(schemes, program, 5, 2))
                along = along_distribution(schemes, program, 5)
                for each in views:
                    self.assertTrue(each == along)

    def test_a_careless_knower_would_be_told_apart(self):
        program = Program([(("offer", 0), (), (1,)), (("ask", 0, 0), (2,), (2,)), (("ask", 0, 1), (), (2,))])
        views = [tuple(sorted(knower_view([EDGES], [witness], (draw,), program, 3, careful=False) for draw in (0, 1)))
                 for witness in ((0, 1), (1, 0))]
        self.assertNotEqual(views[0], views[1])

    def test_errors_in_their_order(self):
        for witnesses in ([(0, 0)], [(0, 1)]):
            for steps in (-1, 0, 3, 9):
                for length in (6, 7, 50):
                    with self.assertRaises(TooLarge):
                        view_distribution([OF_OR], witnesses, OFFER, steps, length)
                    with self.assertRaises(TooLarge):
                        simulated_view_distribution([OF_OR], OFFER, steps, length)
        for steps in (-1, 0, 3, 9):
            with self.assertRaises(BadWitness):
                view_distribution([OF_OR], [(0, 0)], OFFER, steps, 1)
        for steps in (-1, 9):
            for length in (0, 5):
                with self.assertRaises(BadProgram):
                    view_distribution([OF_OR], [(0, 1)], OFFER, steps, length)
                with self.assertRaises(BadProgram):
                    simulated_view_distribution([OF_OR], OFFER, steps, length)
        for length in range(3):
            with self.assertRaises(TapeEnd):
                view_distribution([OF_OR], [(0, 1)], OFFER, length + 1, length)
            with self.assertRaises(TapeEnd):
                simulated_view_distribution([OF_OR], OFFER, length + 1, length)
        with self.assertRaises(TooLarge):
            view_distribution([HUGE], [((0, 1, 2, 3, 4), (0, 1, 2, 3, 4))], OFFER, 1, 1)

    def test_3000_tapes_and_more(self):
        table = distinct(24)
        self.assertEqual(tape_size([table, distinct(5)]), 120)
        found = view_distribution([made(COINS)], [1], OFFER, 1, 11)
        self.assertEqual(found.pairs, [(((("sealed", 0, 0), 1, ()),), 1)])
        with self.assertRaises(TooLarge):
            view_distribution([made(COINS)], [1], OFFER, 1, 12)
        with self.assertRaises(TooLarge):
            simulated_view_distribution([made(COINS)], OFFER, 1, 12)

    def test_branches(self):
        def program(*cuts):
            """Three deals, each of which gets its question."""
            moves = [("offer", 0), ("offer", 1), ("offer", 2), ("ask", 0, 0), ("ask", 1, 0), ("ask", 2, 0)]
            return Program([(move, cuts if move[0] == "ask" else (), (min(at + 1, 5),))
                            for at, move in enumerate(moves)])

        schemes = [distinct(10), distinct(15), distinct(20)]
        self.assertEqual([len(scheme.simulated_distribution(0).pairs) for scheme in schemes], [10, 15, 20])
        self.assertEqual(len(along_distribution(schemes, program(), 7).pairs), 3000)
        # Branches differ by their replies, even if nothing is seen of them.
        self.assertEqual(len(along_distribution(schemes, program(1), 6).pairs), 1)
        self.assertEqual(len(along_distribution(schemes, program(0), 8).pairs), 1)
        larger = [distinct(10), distinct(15), distinct(21)]
        for cuts in ((), (1,), (2,)):
            with self.assertRaises(TooLarge):
                along_distribution(larger, program(*cuts), 6)
            self.assertEqual(along_distribution(larger, program(*cuts), 5).total, 1 if cuts == (1,) else 150)
        self.assertEqual(len(along_distribution(larger, program(0), 8).pairs), 1)

    def test_along_raises_its_errors_in_their_order(self):
        asking = Program([(("offer", 0), (), (1,)), (("ask", 0, 0), (1,), (1,))])
        for steps in (-1, 9):
            for schemes in ([HUGE], [EDGES]):
                with self.assertRaises(BadProgram):
                    along_distribution(schemes, asking, steps)
        with self.assertRaises(TooLarge):
            along_distribution([HUGE], asking, 2)
        # As long as no deal gets its question, no replies are needed.
        self.assertEqual(along_distribution([HUGE], asking, 1).total, 1)
        self.assertEqual(along_distribution([HUGE], OFFER, 8).total, 1)
        waiting = Program([(("offer", 0), (), (1,)), (("ask", 0, 0), (0,), (1,))])
        self.assertEqual(along_distribution([HUGE], waiting, 8).total, 1)
        shown = Program([(("offer", 0), (), (1,)), (("ask", 0, 0), (), (1,))])
        self.assertEqual(along_distribution([SIX], shown, 4).total, 720)

    def test_replies_have_their_probability(self):
        # Question 1 of this table has three replies, one of them twice as likely.
        table = made(WORDS)
        program = Program([(("offer", 0), (), (1,)), (("ask", 0, 1), (), (1,))])
        along = along_distribution([table], program, 2)
        replies = table.simulated_distribution(1)
        self.assertEqual(along.total, replies.total)
        for (word, shown), weight in replies.pairs:
            boxes = table.boxes_for(1, word)
            revealed = tuple((0, box, content) for box, content in zip(boxes, shown))
            view = ((("sealed", 0, 0), 1, ()), (("reply", 0, 1, word), 1, revealed))
            self.assertEqual(along.chance(view).part * replies.total, along.chance(view).whole * weight)

    def test_arguments_stay_as_they_were(self):
        schemes, witnesses = [EDGES, NOT], [(1, 0), (0,)]
        first = view_distribution(schemes, witnesses, OFFER, 2, 2)
        self.assertEqual((schemes, witnesses), ([EDGES, NOT], [(1, 0), (0,)]))
        first.pairs.append("changed")
        again = view_distribution(schemes, witnesses, OFFER, 2, 2)
        self.assertEqual(len(again.pairs), 1)
        along = along_distribution(schemes, OFFER, 2)
        self.assertEqual(schemes, [EDGES, NOT])
        self.assertTrue(again == along)


if __name__ == "__main__":
    unittest.main()
