"""Points 127 to 130: meetings of a knower and an asker."""

import random
import unittest

from interface import InterfaceChecks, methods_in
from program_samples import BOTH, COLORS, EDGES, EITHER, OF_OR, POINT, RING
from provedunseen.askers import Asker
from provedunseen.building import scheme_of
from provedunseen.errors import BadSchedule, BadWitness, Crash, TapeEnd
from provedunseen.ledgers import Budget, Ledger, Tape
from provedunseen.meetings import Meeting
from provedunseen.responders import Knower
from provedunseen.statements import colors
from samples import EDGE

ONE_EDGE = scheme_of(colors(EDGE, 2))
HONEST = [(POINT, (0,)), (EDGES, (1, 0)), (OF_OR, (0, 1)), (RING, (0, 1, 2, 3)), (COLORS, (2, 0, 1)),
          (EITHER, (1, (1, 1))), (EITHER, (0, (1, 0))), (BOTH, ((1, 1), (1, 0))), (ONE_EDGE, (1, 0))]
MANY = tuple(range(60))


class Mirror:
    """A meeting, move by move, in the words of point 128."""

    def __init__(self, scheme, witness, count, numbers, coins):
        self.count = count
        self.ledger = Ledger()
        self.budgets = {"knower": Budget(), "asker": Budget()}
        self.knower = Knower([scheme], [witness], Tape(list(numbers)), [], self.ledger, self.budgets["knower"])
        self.asker = Asker(scheme, count, Tape(list(coins)), [], self.ledger, self.budgets["asker"])

    def do(self, who, cut, call):
        self.budgets[who].allow(None if cut == -1 else cut)
        try:
            call()
        except Crash:
            self.budgets[who].allow(None)
            (self.knower if who == "knower" else self.asker).restart()
        self.budgets[who].allow(None)

    def move(self, kind, number, cut):
        if kind == "offer":
            self.do("knower", cut, lambda: self.knower.offer(0))
        elif kind == "crash":
            self.asker.restart()
            self.do("knower", cut, self.knower.restart)
        elif self.ledger.letters:
            letter = self.ledger.letters[number % len(self.ledger.letters)]
            if letter[0] == "ask":
                self.do("knower", cut, lambda: self.knower.ask(letter[1], letter[2]))
            else:
                self.do("asker", cut, lambda: self.asker.hear(letter))

    def finish(self):
        for _ in range(self.count):
            self.move("offer", 0, -1)
        for _ in range(3):
            for place in range(len(self.ledger.letters)):
                self.move("deliver", place, -1)


def told(meeting):
    """All that is known of a meeting."""
    knower, asker, ledger = meeting.knower, meeting.asker, meeting.ledger
    return (list(ledger.letters), ledger.sealed, [(ledger.shown(deal), ledger.visible(deal)) for deal in range(30)],
            knower.deals, knower.up, list(asker.questions.items()), list(asker.bits.items()), asker.up, asker.verdict)


def random_schedule(chance):
    return [(chance.choice(("offer", "deliver", "deliver", "deliver", "crash")), chance.randint(0, 99),
             chance.choice((-1, -1, 0, 1, 2, 3, 99))) for _ in range(chance.randint(0, 20))]


class MakingTest(unittest.TestCase, InterfaceChecks):
    def test_interface(self):
        self.check_methods("meetings", "Meeting", {
            "__init__": "(self, scheme, witness, count, numbers, coins)", "run": "(self, schedule)", "finish": "(self)",
        })
        self.assertIn("verdict", methods_in("meetings", "Meeting"))
        self.assertIsInstance(Meeting.verdict, property)

    def test_a_new_meeting(self):
        for count in (1, 2, 3):
            meeting = Meeting(OF_OR, (1, 0), count, (1, 2), (0,))
            self.assertEqual([type(each) for each in (meeting.knower, meeting.asker, meeting.ledger)],
                             [Knower, Asker, Ledger])
            self.assertEqual(told(meeting), ([], 0, [((), ())] * 30, [], True, [], [], True, "open"))
            self.assertEqual(meeting.verdict, "open")

    def test_errors_in_their_order(self):
        for count in (-1, 0, 4, 99):
            for witness in ((1, 0), (0, 0), 5):
                with self.assertRaises(BadSchedule):
                    Meeting(OF_OR, witness, count, (1,), (0,))
        for witness in ((0, 0), 5, (), (1, 0, 0)):
            with self.assertRaises(BadWitness):
                Meeting(OF_OR, witness, 1, (), ())

    def test_the_verdict_is_that_of_the_asker(self):
        meeting = Meeting(POINT, (0,), 1, (0,), (0,))
        self.assertEqual(meeting.verdict, "open")
        meeting.finish()
        self.assertEqual((meeting.verdict, meeting.asker.verdict), ("yes", "yes"))
        meeting.asker.bits[7] = 0
        self.assertEqual(meeting.verdict, "no")


class RunTest(unittest.TestCase):
    def test_by_hand(self):
        meeting = Meeting(EDGES, (1, 0), 1, (0, 1), (1, 0))
        letters = []
        for schedule, posted in (
            ([("deliver", 5, -1), ("crash", 3, 0)], []),
            ([("offer", 99, -1)], [("sealed", 0, 0)]),
            ([("deliver", 0, -1)], [("ask", 0, 1)]),
            # Index 7 modulo 2.
            ([("deliver", 7, -1)], [("reply", 0, 1, ())]),
            ([("deliver", 99, 0), ("deliver", 50, 0)], []),
            ([("deliver", 4, -1)], [("reply", 0, 1, ())]),
            ([("deliver", 0, -1)], [("ask", 0, 1)]),
            ([("deliver", 3, -1), ("deliver", 0, -1), ("deliver", 2, -1)], []),
        ):
            self.assertIsNone(meeting.run(schedule))
            letters += posted
            self.assertEqual(meeting.ledger.letters, letters)
            self.assertEqual((meeting.knower.up, meeting.asker.up), (True, True))
        self.assertEqual(meeting.asker.bits, {0: 1})
        self.assertEqual(meeting.verdict, "yes")
        self.assertEqual(meeting.ledger.shown(0), ((0, 1), (3, 1), (4, 0)))

    def test_cuts_by_hand(self):
        # An offer cut at every write: the restart seals what has got its row.
        for cut, sealed, letters in ((0, 0, 0), (1, 1, 0), (2, 1, 0), (3, 1, 1), (99, 1, 1), (-1, 1, 1)):
            meeting = Meeting(EDGES, (1, 0), 1, (0,), (1,))
            meeting.run([("offer", 0, cut)])
            self.assertEqual((meeting.ledger.sealed, len(meeting.ledger.letters)), (sealed, letters))
            self.assertIs(meeting.knower.up, True)
        # The asker is cut at both writes of a letter about a sealed deal.
        for cut, asked, letters in ((0, {}, 1), (1, {0: 1}, 1), (2, {0: 1}, 2), (-1, {0: 1}, 2)):
            meeting = Meeting(EDGES, (1, 0), 1, (0,), (1, 0))
            meeting.run([("offer", 0, -1), ("deliver", 0, cut)])
            self.assertEqual((meeting.asker.questions, len(meeting.ledger.letters)), (asked, letters))
            self.assertIs(meeting.asker.up, True)
            meeting.run([("deliver", 0, -1)])
            self.assertEqual(meeting.asker.questions, asked or {0: 0})
        # The knower is cut at each write of its answer.
        for cut, question, shown, letters in ((0, None, 0, 2), (1, 1, 0, 2), (2, 1, 3, 2), (3, 1, 3, 3)):
            meeting = Meeting(EDGES, (1, 0), 1, (0,), (1,))
            meeting.run([("offer", 0, -1), ("deliver", 0, -1), ("deliver", 1, cut)])
            self.assertEqual(meeting.knower.deals, [(0, 0, question)])
            self.assertEqual((len(meeting.ledger.shown(0)), len(meeting.ledger.letters)), (shown, letters))

    def test_a_crash_changes_nothing_that_is_known(self):
        for cut in (-1, 0, 1, 99):
            meeting = Meeting(EDGES, (1, 0), 2, (0, 1), (1, 0))
            meeting.run([("offer", 0, -1), ("deliver", 0, -1), ("offer", 0, 2), ("deliver", 1, 2)])
            before = told(meeting)
            meeting.run([("crash", 0, cut), ("crash", 99, cut)])
            self.assertEqual(told(meeting), before)

    def test_a_crash_restarts_those_that_are_down(self):
        meeting = Meeting(EDGES, (1, 0), 2, (0, 1, 0), (1, 0))
        meeting.run([("offer", 0, -1), ("deliver", 0, -1)])
        for sealed, cut in ((1, -1), (2, 0)):
            for budget, writes, call in (
                (meeting.knower.budget, 1, lambda: meeting.knower.offer(0)),
                (meeting.asker.budget, 0, lambda: meeting.asker.hear(("sealed", 0, 0))),
            ):
                budget.allow(writes)
                with self.assertRaises(Crash):
                    call()
                budget.allow(None)
            self.assertEqual((meeting.knower.up, meeting.asker.up), (False, False))
            meeting.run([("crash", 0, cut)])
            # With its cut the knower crashes over the restart, and is restarted without a limit.
            self.assertEqual((meeting.knower.up, meeting.asker.up, meeting.ledger.sealed), (True, True, sealed + 1))

    def test_schedules_that_are_refused(self):
        good = [("offer", 0, -1), ("deliver", 0, -1), ("deliver", 1, -1), ("deliver", 2, -1)]
        for bad in (
            ("Offer", 0, -1), ("ask", 0, -1), ("restart", 0, -1), ("", 0, -1), ("offer",), ("offer", 0), ("deliver", 1),
            ("offer", 0, -1, 0), ("offer", -1, -1), ("offer", 100, -1), ("offer", 0, -2), ("offer", 0, 100),
            ("deliver", -1, 0), ("deliver", 100, 0), ("deliver", 0, -2), ("deliver", 0, 100), ("crash", 0, -2),
            ("crash", 0, 100), ("crash", 100, 0), ("crash", -1, 0),
        ):
            for schedule in ([bad], good + [bad], [bad] + good):
                meeting = Meeting(EDGES, (1, 0), 1, (0, 1), (1,))
                before = told(meeting)
                with self.assertRaises(BadSchedule):
                    meeting.run(schedule)
                self.assertEqual(told(meeting), before)
        meeting = Meeting(EDGES, (1, 0), 1, (0, 1), (1,))
        before = told(meeting)
        for many in (21, 22, 60):
            with self.assertRaises(BadSchedule):
                meeting.run([("crash", 0, 0)] * (many - 1) + [("offer", 0, -1)])
            self.assertEqual(told(meeting), before)
        meeting.run([("crash", 0, 0)] * 19 + [("offer", 99, 99)])
        self.assertEqual(meeting.ledger.letters, [("sealed", 0, 0)])
        meeting.run([])

    def test_the_end_of_a_tape(self):
        meeting = Meeting(EDGES, (1, 0), 1, (0,), ())
        with self.assertRaises(TapeEnd):
            meeting.run([("offer", 0, 2), ("offer", 0, 1)])
        # What was done before stays.
        self.assertEqual((meeting.knower.deals, meeting.ledger.sealed), ([(0, 0, None)], 1))
        meeting = Meeting(EDGES, (1, 0), 1, (0,), ())
        with self.assertRaises(TapeEnd):
            meeting.run([("offer", 0, -1), ("deliver", 0, 1), ("offer", 0, -1)])
        self.assertEqual((meeting.ledger.letters, meeting.asker.questions), ([("sealed", 0, 0)], {}))

    def test_schedules_of_chance(self):
        chance = random.Random(41)
        for _ in range(250):
            scheme, witness = chance.choice(HONEST)
            arguments = (scheme, witness, chance.randint(1, 3), tuple(chance.choices(range(99), k=60)),
                         tuple(chance.choices(range(99), k=60)))
            meeting, mirror = Meeting(*arguments), Mirror(*arguments)
            for _ in range(chance.randint(1, 2)):
                schedule = random_schedule(chance)
                given = list(schedule)
                meeting.run(schedule)
                self.assertEqual(schedule, given)
                for move in schedule:
                    mirror.move(*move)
                self.assertEqual(told(meeting), told(mirror))
            meeting.finish()
            mirror.finish()
            self.assertEqual(told(meeting), told(mirror))


class FinishTest(unittest.TestCase):
    def test_by_hand(self):
        meeting = Meeting(EDGES, (1, 0), 2, (0, 1), (0, 1))
        self.assertEqual(meeting.finish(), "yes")
        asks, replies = [("ask", 0, 0), ("ask", 1, 1)], [("reply", 0, 0, ()), ("reply", 1, 1, ())]
        # In the second round the deals are asked once more; in the third one they are judged.
        self.assertEqual(meeting.ledger.letters,
                         [("sealed", 0, 0), ("sealed", 1, 0)] + asks + asks + replies + asks + replies * 2)
        self.assertEqual(list(meeting.asker.bits.items()), [(0, 1), (1, 1)])

    def test_an_honest_knower_is_never_refused(self):
        chance = random.Random(53)
        for at in range(300):
            scheme, witness = HONEST[at % len(HONEST)]
            count = chance.randint(1, 3)
            meeting = Meeting(scheme, witness, count, tuple(chance.choices(range(10 ** 6), k=60)),
                              tuple(chance.choices(range(99), k=60)))
            judged = {}
            for _ in range(chance.randint(0, 3)):
                for move in random_schedule(chance):
                    meeting.run([move])
                    self.assertNotEqual(meeting.verdict, "no")
                    self.assertLessEqual(judged.items(), meeting.asker.bits.items())
                    judged = dict(meeting.asker.bits)
            self.assertEqual(meeting.finish(), "yes")
            self.assertEqual((meeting.verdict, len(meeting.asker.bits)), ("yes", count))
            rows = [row for row in meeting.asker.log if row[0] == "judged"]
            self.assertEqual(len(rows), len({deal for _, deal, _ in rows}))
            bits = dict(meeting.asker.bits)
            # Once more: everything stays judged as it is.
            self.assertEqual(meeting.finish(), "yes")
            self.assertEqual(meeting.asker.bits, bits)

    def test_without_any_limit(self):
        meeting = Meeting(EDGES, (1, 0), 3, MANY, MANY)
        meeting.run([("offer", 0, 0), ("offer", 0, 1), ("offer", 0, 2), ("offer", 0, 3), ("deliver", 0, 0)])
        self.assertEqual(meeting.finish(), "yes")
        # Two deals of the schedule are sealed without a letter: only those with one are asked about.
        self.assertEqual(list(meeting.asker.bits), [2, 3, 4])
        meeting = Meeting(EDGES, (1, 0), 1, (0,), ())
        with self.assertRaises(TapeEnd):
            meeting.run([("offer", 0, 2), ("offer", 0, 1)])
        self.assertIsNone(meeting.knower.budget.left)

    def test_a_tape_that_is_one_too_short(self):
        for count in (1, 2, 3):
            meeting = Meeting(EDGES, (1, 0), count, (0,) * count, (1,) * count)
            self.assertEqual(meeting.finish(), "yes")
            meeting = Meeting(EDGES, (1, 0), count, (0,) * (count - 1), (1,) * count)
            with self.assertRaises(TapeEnd):
                meeting.finish()
            self.assertEqual(meeting.ledger.sealed, count - 1)
            self.assertEqual(meeting.verdict, "open")
            meeting = Meeting(EDGES, (1, 0), count, (0,) * count, (1,) * (count - 1))
            with self.assertRaises(TapeEnd):
                meeting.finish()
            self.assertEqual(len(meeting.asker.questions), count - 1)
        meeting = Meeting(EDGES, (1, 0), 1, (0,), (1,))
        meeting.finish()
        with self.assertRaises(TapeEnd):
            meeting.finish()
        self.assertEqual(meeting.verdict, "yes")


if __name__ == "__main__":
    unittest.main()
