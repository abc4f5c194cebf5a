"""Points 102 to 110: logs, knowers and simulators, and what they write up to a crash."""

import inspect
import random
import unittest

from interface import InterfaceChecks
from journals import SPENT, Rig, writes_in
from provedunseen.building import scheme_of
from provedunseen.errors import BadLog, BadSession, BadWitness, Crash, TapeEnd
from provedunseen.ledgers import Budget, Ledger, SimulatedLedger, Tape
from provedunseen.responders import (
    Knower, Responder, Simulator, attempt, deals_of, given_away, writes_due,
)
from provedunseen.statements import alike, colors, either
from provedunseen.tables import TableScheme
from samples import AND, EDGE, NEVER, OR, TRUE_RING, full
from table_samples import COINS, OPEN, WORDS, made

OF_OR = scheme_of(OR)
EDGES = scheme_of(alike(EDGE, EDGE))
RING = scheme_of(TRUE_RING)
EITHER = scheme_of(either(alike(EDGE, (2, ())), OR))
COLORS = scheme_of(colors(full(3), 3))
ONE_EDGE = scheme_of(colors(EDGE, 2))
# Question 0 has a rule that reveals nothing; question 1 reveals box 0, question 2 both boxes.
QUIET = TableScheme(2, 2, (
    (((), ((),)),), (((0,), ((0,), (1,))),), (((0, 1), ((0, 0), (1, 1))),),
), ((((0, 0), (0, 0, 0)), ((1, 1), (0, 0, 0))), (((1, 1), (0, 0, 0)), ((0, 0), (0, 0, 0)))))
SETS = [
    ([OF_OR], [(0, 1)]), ([EDGES, RING], [(1, 0), (0, 1, 2, 3)]), ([made(COINS), EITHER], [1, (1, (1, 0))]),
    ([QUIET, COLORS, OF_OR], [1, (2, 0, 1), (1, 1)]), ([made(WORDS)], [1]),
]
KINDS = ("knower", "careless", "simulator")
NUMBERS = [5, 0, 17, 3, 8, 1, 2, 30, 11, 6, 4, 9]

GOOD_LOGS = [
    ([], []),
    ([("filled", 0, 0, 0)], [(0, 0, None)]),
    ([("filled", 0, 2, 7), ("asked", 0, 1)], [(2, 7, 1)]),
    ([("filled", 0, 1, 5), ("filled", 1, 0, 10 ** 12), ("asked", 1, 0), ("filled", 2, 9, 3), ("asked", 0, 99)],
     [(1, 5, 99), (0, 10 ** 12, 0), (9, 3, None)]),
]
BAD_ROWS = [
    (), ("filled",), ("filled", 1), ("filled", 1, 0), ("filled", 1, 0, 0, 0), ("asked",), ("asked", 0),
    ("asked", 0, 0, 0), ("Filled", 1, 0, 0), ("asks", 0, 0), ("judged", 0, 1), ("", 0, 0), ("sealed", 1, 0),
    ("filled", 1, 0, -1), ("filled", 1, -1, 0), ("filled", -1, 0, 0), ("asked", 0, -1), ("asked", -1, 0),
    ("filled", 0, 0, 0), ("filled", 2, 0, 0), ("filled", 99, 0, 0), ("asked", 1, 0), ("asked", 5, 0),
]


def new_knower(schemes, witnesses, numbers, log=None, ledger=None, **more):
    return Knower(schemes, witnesses, Tape(numbers), [] if log is None else log,
                  Ledger() if ledger is None else ledger, Budget(), **more)


def new_simulator(schemes, numbers, log=None, ledger=None):
    return Simulator(schemes, Tape(numbers), [] if log is None else log,
                     SimulatedLedger() if ledger is None else ledger, Budget())


class LogTest(unittest.TestCase, InterfaceChecks):
    def test_interface(self):
        self.check_functions("responders", {
            "deals_of": "(rows)", "writes_due": "(responder, deal, question)",
            "attempt": "(responder, move, *, writes=None)", "given_away": "(scheme, ledger, deal)",
        })
        self.check_methods("responders", "Responder", {
            "offer": "(self, session)", "ask": "(self, deal, question)", "restart": "(self)",
        })
        self.check_methods("responders", "Knower", {
            "__init__": "(self, schemes, witnesses, tape, log, ledger, budget, *, careful=True)",
        })
        self.check_methods("responders", "Simulator", {"__init__": "(self, schemes, tape, log, ledger, budget)"})
        self.assertEqual((Knower.__bases__, Simulator.__bases__), ((Responder,), (Responder,)))
        self.assertIs(inspect.signature(Knower).parameters["careful"].default, True)

    def test_possible_logs(self):
        for rows, deals in GOOD_LOGS:
            before = list(rows)
            self.assertEqual(deals_of(rows), deals)
            found = deals_of(rows)
            found.append("changed")
            self.assertEqual(deals_of(rows), deals)
            self.assertEqual(rows, before)

    def test_each_impossible_row(self):
        for row in BAD_ROWS:
            for ahead in ([("filled", 0, 0, 0)], [("filled", 0, 0, 0), ("asked", 0, 0)]):
                for behind in ([], [("filled", 1, 0, 0)], [()]):
                    with self.subTest(row=row, ahead=ahead):
                        if row[:1] == ("asked",) and len(ahead) == 1 and row == ("asked", 0, 0):
                            continue
                        with self.assertRaises(BadLog) as caught:
                            deals_of(ahead + [row] + behind)
                        self.assertEqual(caught.exception.place, len(ahead))

    def test_a_question_is_fixed_once_and_behind_its_deal(self):
        for rows, place in (
            ([("asked", 0, 0)], 0), ([("filled", 1, 0, 0)], 0), ([()], 0),
            ([("filled", 0, 0, 0), ("asked", 0, 1), ("asked", 0, 1)], 2),
            ([("filled", 0, 0, 0), ("asked", 0, 1), ("filled", 1, 0, 0), ("asked", 0, 0)], 3),
            ([("filled", 0, 0, 0), ("asked", 1, 1), ("filled", 1, 0, 0)], 1),
            ([("filled", 0, 0, 0), ("filled", 0, 0, 0), ()], 1),
        ):
            with self.assertRaises(BadLog) as caught:
                deals_of(rows)
            self.assertEqual(caught.exception.place, place)

    def test_logs_of_chance(self):
        chance = random.Random(7)
        for _ in range(300):
            rows, deals, place = [], [], None
            for at in range(8):
                if chance.random() < 0.5:
                    deal = len(deals) if chance.random() < 0.9 else chance.randint(-1, 4)
                    rows.append(("filled", deal, chance.randint(0, 2), chance.randint(0, 9)))
                    good = deal == len(deals)
                    if good and place is None:
                        deals.append(rows[-1][2:] + (None,))
                else:
                    deal = chance.randint(0, max(0, len(deals) - 1)) if chance.random() < 0.9 else chance.randint(-1, 4)
                    rows.append(("asked", deal, chance.randint(0, 3)))
                    good = 0 <= deal < len(deals) and deals[deal][2] is None
                    if good and place is None:
                        deals[deal] = deals[deal][:2] + (rows[-1][2],)
                if not good and place is None:
                    place = at
            if place is None:
                self.assertEqual(deals_of(rows), deals)
            else:
                with self.assertRaises(BadLog) as caught:
                    deals_of(rows)
                self.assertEqual(caught.exception.place, place)


class MakingTest(unittest.TestCase):
    def test_a_new_responder(self):
        for responder in (new_knower([OF_OR, EDGES], [(1, 1), (0, 1)], [1]), new_simulator([OF_OR], [1])):
            self.assertEqual((responder.deals, responder.up), ([], True))

    def test_witnesses_come_first(self):
        bad_log = [("asked", 0, 0)]
        for schemes, witnesses in (
            ([OF_OR], []), ([OF_OR], [(0, 1), (0, 1)]), ([OF_OR], [(0, 0)]), ([OF_OR, EDGES], [(0, 1), (1, 1)]),
            ([OF_OR, EDGES], [(0, 0), (0, 1)]), ([OF_OR, EDGES], [(0, 1)]), ([made(COINS)], [2]), ([OF_OR], [0]),
        ):
            for log in ([], bad_log):
                with self.assertRaises(BadWitness):
                    new_knower(schemes, witnesses, [], log)
                with self.assertRaises(BadWitness):
                    new_knower(schemes, witnesses, [], log, careful=False)
        for log, place in ((bad_log, 0), ([("filled", 0, 0, 0), ()], 1)):
            with self.assertRaises(BadLog) as caught:
                new_knower([OF_OR], [(0, 1)], [], log)
            self.assertEqual(caught.exception.place, place)
            with self.assertRaises(BadLog) as caught:
                new_simulator([OF_OR], [], log)
            self.assertEqual(caught.exception.place, place)

    def test_up_if_each_deal_is_sealed(self):
        log = [("filled", 0, 0, 3), ("filled", 1, 0, 5), ("asked", 0, 1)]
        for sealed, up in (((), False), ((0,), False), ((1,), False), ((0, 1), True), ((0, 1, 2), True)):
            for kind in ("knower", "simulator"):
                ledger = SimulatedLedger()
                for deal in sealed:
                    ledger.seal(deal, OF_OR.fill((0, 1), 3))
                rows = list(log)
                if kind == "knower":
                    responder = new_knower([OF_OR], [(0, 1)], [], rows, ledger)
                else:
                    responder = new_simulator([OF_OR], [], rows, ledger)
                self.assertIs(responder.up, up)
                self.assertEqual(responder.deals, [(0, 3, 1), (0, 5, None)])
                # Making a responder writes nothing.
                self.assertEqual((rows, ledger.sealed, ledger.letters), (log, len(sealed), []))
                if not up:
                    for call in (lambda: responder.offer(0), lambda: responder.ask(0, 1), lambda: responder.ask(9, 9)):
                        with self.assertRaises(Crash):
                            call()
                    self.assertEqual((rows, ledger.sealed, ledger.letters), (log, len(sealed), []))

    def test_lists_are_copied_but_the_log_is_kept(self):
        schemes, witnesses, numbers, log, ledger = [OF_OR], [(0, 1)], [6, 5], [], Ledger()
        knower = new_knower(schemes, witnesses, numbers, log, ledger)
        schemes.append(EDGES)
        witnesses[0] = (0, 0)
        knower.offer(0)
        with self.assertRaises(BadSession):
            knower.offer(1)
        self.assertEqual(log, [("filled", 0, 0, 2)])
        ledger.reveal(0, tuple(range(OF_OR.boxes)))
        self.assertEqual(ledger.visible(0), OF_OR.fill((0, 1), 2))
        self.assertEqual(numbers, [6, 5])
        given, rows = [OF_OR], []
        simulator = new_simulator(given, [2], rows)
        given.clear()
        simulator.offer(0)
        self.assertEqual(rows, [("filled", 0, 0, 2)])


class ErrorsTest(unittest.TestCase):
    def test_session_ahead_of_crash_ahead_of_tape_end(self):
        for kind in KINDS:
            rig = Rig(kind, [EDGES, OF_OR], [(0, 1), (1, 1)], [3])
            responder = rig.responder
            responder.offer(1)
            # The tape has ended: the log and the ledger stay as they are, and the responder stays up.
            for _ in range(2):
                with self.assertRaises(TapeEnd):
                    responder.offer(0)
                self.assertIs(responder.up, True)
            self.assertEqual(rig.log, [("filled", 0, 1, 3 % OF_OR.draws)])
            rig.budget.allow(0)
            with self.assertRaises(Crash):
                responder.ask(0, 0)
            self.assertIs(responder.up, False)
            for session in (-1, 2, 99):
                with self.assertRaises(BadSession):
                    responder.offer(session)
            rig.budget.allow(None)
            with self.assertRaises(Crash):
                responder.offer(0)
            self.assertEqual(rig.tape.place, 1)
            responder.restart()
            with self.assertRaises(TapeEnd):
                responder.offer(0)
            for session in (-1, 2):
                with self.assertRaises(BadSession):
                    responder.offer(session)

    def test_what_was_taken_stays_taken(self):
        for kind in KINDS:
            for cut in range(3):
                rig = Rig(kind, [EDGES], [(0, 1)], [1, 0, 1])
                rig.budget.allow(cut)
                with self.assertRaises(Crash):
                    rig.responder.offer(0)
                self.assertEqual(rig.tape.place, 1)
                rig.budget.allow(None)
                rig.responder.restart()
                rig.responder.offer(0)
                self.assertEqual(rig.tape.place, 2)
                draws = [1, 0] if cut > 0 else [0]
                self.assertEqual(rig.responder.deals, [(0, draw, None) for draw in draws])

    def test_nothing_is_taken_for_a_session_that_is_none(self):
        rig = Rig("knower", [OF_OR], [(0, 1)], [1])
        with self.assertRaises(BadSession):
            rig.responder.offer(1)
        self.assertEqual((rig.tape.place, rig.journal), (0, []))


class WritesTest(unittest.TestCase):
    """A responder and its model do the same, wherever it is cut."""

    def check_told(self, rig):
        """The log, the deals and the ledger are those of all writes so far."""
        model, ledger = rig.model, rig.ledger
        self.assertEqual(list(rig.log), model.rows())
        self.assertEqual(rig.responder.deals, model.deals())
        self.assertEqual(rig.responder.deals, deals_of(rig.log))
        self.assertEqual(ledger.letters, model.letters())
        self.assertEqual(ledger.sealed, len(model.sealed()))
        for deal in range(len(model.deals())):
            self.assertEqual({box for box, _ in ledger.shown(deal)}, model.revealed(deal))

    def do(self, rig, call, writes, cut):
        """Call it with so many writes allowed, and check what it writes."""
        before = len(rig.journal)
        rig.budget.allow(cut)
        due = writes if cut is None else writes[:cut]
        if len(due) == len(writes):
            self.assertIsNone(call())
            self.assertIs(rig.responder.up, True)
        else:
            with self.assertRaises(Crash):
                call()
            self.assertIs(rig.responder.up, False)
        journal = rig.journal[before:]
        self.assertEqual(writes_in(journal), due)
        # A write that is not made was spent for, too.
        self.assertEqual(journal.count(SPENT), min(len(due) + 1, len(writes)))
        self.assertEqual(rig.budget.left, None if cut is None else cut - len(due))
        rig.model.written.extend(due)
        rig.budget.allow(None)
        self.check_told(rig)

    def offer(self, rig, session, cut=None):
        draw = rig.tape.numbers[rig.tape.place] % rig.schemes[session].draws
        self.do(rig, lambda: rig.responder.offer(session), rig.model.offer(session, draw), cut)

    def ask(self, rig, deal, question, cut=None):
        writes = rig.model.ask(deal, question)
        before = list(rig.journal)
        self.assertEqual(writes_due(rig.responder, deal, question), len(writes))
        self.assertEqual(rig.journal, before)
        self.do(rig, lambda: rig.responder.ask(deal, question), writes, cut)
        if not rig.responder.up:
            self.assertEqual(writes_due(rig.responder, deal, question), 0)

    def restart(self, rig, cut=None):
        self.do(rig, lambda: rig.responder.restart(), rig.model.restart(), cut)

    def rigs(self):
        for schemes, witnesses in SETS:
            for kind in KINDS:
                yield lambda kind=kind, schemes=schemes, witnesses=witnesses: Rig(kind, schemes, witnesses, NUMBERS)

    def test_offers_cut_at_every_write(self):
        for new in self.rigs():
            for cut in (0, 1, 2, 3, 4, None):
                for again in (None, 0, 1):
                    for anew in (False, True):
                        rig = new()
                        self.offer(rig, 0)
                        self.offer(rig, len(rig.schemes) - 1, cut)
                        if anew:
                            down = cut == 1
                            rig.make()
                            self.assertIs(rig.responder.up, not down)
                            self.check_told(rig)
                        if not rig.responder.up:
                            self.restart(rig, again)
                            self.restart(rig)
                        self.ask(rig, 0, 0)
                        self.offer(rig, 0)

    def test_questions_cut_at_every_write(self):
        for new in self.rigs():
            for first in (0, 1, 7):
                for cut in (0, 1, 2, 3, 4, None):
                    for anew in (False, True):
                        rig = new()
                        self.offer(rig, 0)
                        self.offer(rig, len(rig.schemes) - 1)
                        self.ask(rig, 1, first, cut)
                        if anew:
                            rig.make()
                            # Everything is sealed, so it is up at once.
                            self.assertIs(rig.responder.up, True)
                        elif not rig.responder.up:
                            self.restart(rig, 0)
                        for question in (1, 0, 1):
                            self.ask(rig, 1, question)
                            self.ask(rig, 0, question)

    def test_restarts_cut_at_every_write(self):
        rows = [("filled", 0, 0, 0), ("filled", 1, 0, 1), ("asked", 1, 0), ("filled", 2, 0, 0)]
        for new in self.rigs():
            for sealed in ((), (1,), (0, 2)):
                for cut in (0, 1, 2, 3, 4, None):
                    rig = new()
                    for row in rows:
                        rig.log.append(row)
                        rig.model.written.append(("row", row))
                    for deal in sealed:
                        write = rig.model.seal(deal, 0, rows[3 if deal == 2 else deal][3])
                        rig.model.written.append(write)
                        if rig.kind == "simulator":
                            rig.ledger.seal_blank(deal, write[2])
                        else:
                            rig.ledger.seal(deal, write[2])
                    rig.make()
                    self.assertIs(rig.responder.up, False)
                    self.restart(rig, cut)
                    while not rig.responder.up:
                        self.restart(rig, 1)
                    self.restart(rig, 0)
                    self.ask(rig, 1, 1)
                    self.ask(rig, 2, 1)
                    self.offer(rig, 0)

    def test_walks_of_chance(self):
        chance = random.Random(11)
        for new in self.rigs():
            for _ in range(12):
                rig = new()
                for _ in range(14):
                    cut = chance.choice((None, None, 0, 1, 2, 3, 5))
                    if not rig.responder.up:
                        if chance.random() < 0.3:
                            rig.make()
                        if not rig.responder.up:
                            self.restart(rig, cut)
                    elif chance.random() < 0.4 and rig.tape.place < len(NUMBERS):
                        self.offer(rig, chance.randrange(len(rig.schemes)), cut)
                    else:
                        self.ask(rig, chance.randint(-1, 3), chance.randint(-1, 3), cut)
                self.check_replies(rig)

    def check_replies(self, rig):
        """All replies of a careful responder about a deal answer one question."""
        if rig.kind != "careless":
            for deal in range(len(rig.responder.deals)):
                letters = [letter for letter in rig.ledger.letters_of(deal) if letter[0] == "reply"]
                self.assertLessEqual(len(set(letters)), 1)

    def test_a_letter_about_a_deal_that_is_none(self):
        for new in self.rigs():
            rig = new()
            for deal, question in ((0, 0), (-1, 0), (5, 1)):
                self.ask(rig, deal, question)
                self.assertEqual(rig.ledger.letters[-1], ("none", deal))
            self.offer(rig, 0)
            for question in (-1, rig.schemes[0].questions, 99):
                self.ask(rig, 0, question)
                self.assertEqual(rig.ledger.letters[-1], ("none", 0))
            self.ask(rig, 0, 1)
            # A question that the scheme does not have is refused although another one is fixed.
            self.ask(rig, 0, rig.schemes[0].questions)
            self.assertEqual(rig.ledger.letters[-1], ("none", 0))
            self.ask(rig, -1, 0)
            self.assertEqual(rig.ledger.letters[-1], ("none", -1))

    def test_a_reply_without_boxes(self):
        for kind in KINDS:
            rig = Rig(kind, [QUIET], [0], [0, 1])
            self.offer(rig, 0)
            self.ask(rig, 0, 0)
            self.assertEqual(rig.ledger.shown(0), ())
            self.assertEqual(len(rig.ledger.letters), 2)

    def test_boxes_that_are_known_are_revealed_once_more(self):
        # Careless, it reveals box 0 for question 1, crashes, and reveals boxes 0 and 1 for question 2.
        rig = Rig("careless", [QUIET], [1], [0])
        self.offer(rig, 0)
        self.ask(rig, 0, 1, 2)
        self.restart(rig)
        self.ask(rig, 0, 2)
        self.assertIn(("reveal", 0, (0, 1), None), rig.journal)
        self.assertEqual(rig.log[-1], ("asked", 0, 2))
        self.assertEqual([letter[2] for letter in rig.ledger.letters if letter[0] == "reply"], [1, 2])

    def test_the_order_of_the_writes(self):
        rig = Rig("knower", [EDGES], [(1, 0)], [0])
        rig.responder.offer(0)
        rig.responder.ask(0, 1)
        rig.responder.ask(0, 0)
        self.assertEqual(rig.journal, [
            SPENT, ("row", ("filled", 0, 0, 0)), SPENT, ("seal", 0, (1, 0, 1, 1, 0)),
            SPENT, ("letter", ("sealed", 0, 0)), SPENT, ("row", ("asked", 0, 1)),
            SPENT, ("reveal", 0, (0, 3, 4), None), SPENT, ("letter", ("reply", 0, 1, ())),
            SPENT, ("letter", ("reply", 0, 1, ())),
        ])
        self.assertEqual(rig.ledger.shown(0), ((0, 1), (3, 1), (4, 0)))
        rig = Rig("careless", [EDGES], [(1, 0)], [0])
        rig.responder.offer(0)
        rig.responder.ask(0, 1)
        self.assertEqual(rig.journal[6:], [
            SPENT, ("reveal", 0, (0, 3, 4), None), SPENT, ("letter", ("reply", 0, 1, ())),
            SPENT, ("row", ("asked", 0, 1)),
        ])
        rig = Rig("simulator", [EDGES], None, [1])
        rig.responder.offer(0)
        rig.responder.ask(0, 1)
        self.assertEqual(rig.journal, [
            SPENT, ("row", ("filled", 0, 0, 1)), SPENT, ("seal", 0, 5), SPENT, ("letter", ("sealed", 0, 0)),
            SPENT, ("row", ("asked", 0, 1)), SPENT, ("reveal", 0, (0, 3, 4), (1, 1, 0)),
            SPENT, ("letter", ("reply", 0, 1, ())),
        ])


class AttemptTest(unittest.TestCase):
    def test_with_and_without_a_limit(self):
        for kind in KINDS:
            for cut in (0, 1, 2, 3, 4, None):
                rig = Rig(kind, [OF_OR], [(0, 1)], [3, 4])
                rig.budget.allow(7)
                self.assertIs(attempt(rig.responder, ("offer", 0), writes=cut), cut is None or cut >= 3)
                self.assertIsNone(rig.budget.left)
                self.assertIs(rig.responder.up, cut is None or cut >= 3)
                if cut == 1:
                    self.assertIs(attempt(rig.responder, ("restart",), writes=0), False)
                    self.assertIsNone(rig.budget.left)
                    self.assertIs(attempt(rig.responder, ("restart",), writes=1), True)
                    self.assertIsNone(rig.budget.left)
                self.assertIs(attempt(rig.responder, ("restart",)), True)
                if cut != 0:
                    self.assertIs(attempt(rig.responder, ("ask", 0, 1), writes=2), False)
                    self.assertIs(attempt(rig.responder, ("ask", 0, 1), writes=9), False)
                    self.assertIs(attempt(rig.responder, ("restart",), writes=0), True)
                    self.assertIs(attempt(rig.responder, ("ask", 0, 1)), True)
                    self.assertIsNone(rig.budget.left)

    def test_what_else_is_raised(self):
        for writes in (None, 0, 5):
            rig = Rig("knower", [OF_OR], [(0, 1)], [])
            for move, error in ((("offer", 1), BadSession), (("offer", -1), BadSession), (("offer", 0), TapeEnd)):
                rig.budget.allow(3)
                with self.assertRaises(error):
                    attempt(rig.responder, move, writes=writes)
                self.assertIsNone(rig.budget.left)
                self.assertIs(rig.responder.up, True)
        log = [("filled", 0, 0, 1)]
        knower = new_knower([OF_OR], [(0, 1)], [], log)
        log.append(())
        with self.assertRaises(BadLog):
            attempt(knower, ("restart",), writes=3)
        self.assertIsNone(knower.budget.left)

    def test_the_writes_that_are_allowed(self):
        class Watched(Budget):
            def allow(self, writes):
                given.append(writes)
                super().allow(writes)

        given = []
        knower = Knower([OF_OR], [(0, 1)], Tape([1]), [], Ledger(), Watched())
        attempt(knower, ("offer", 0), writes=4)
        self.assertEqual(given[0], 4)
        given.clear()
        attempt(knower, ("ask", 0, 0))
        self.assertIsNone(given[0])

    def test_writes_due_changes_nothing(self):
        rig = Rig("knower", [OF_OR], [(0, 1)], [1])
        rig.responder.offer(0)
        rig.budget.allow(0)
        before = list(rig.journal)
        self.assertEqual([writes_due(rig.responder, 0, question) for question in (0, 1, 2, -1)], [3, 3, 1, 1])
        self.assertEqual(writes_due(rig.responder, 1, 0), 1)
        self.assertEqual((rig.journal, rig.budget.left, rig.responder.up), (before, 0, True))
        with self.assertRaises(Crash):
            rig.responder.ask(0, 0)
        self.assertEqual([writes_due(rig.responder, deal, 0) for deal in (0, 1)], [0, 0])


class GivenAwayTest(unittest.TestCase):
    def test_a_careful_knower_gives_nothing_away(self):
        for scheme, witness in ((OF_OR, (1, 0)), (EDGES, (1, 0)), (RING, (0, 1, 2, 3)), (EITHER, (1, (0, 1)))):
            for cut in range(5):
                ledger = Ledger()
                knower = new_knower([scheme], [witness], [9], ledger=ledger)
                self.assertIsNone(given_away(scheme, ledger, 0))
                knower.offer(0)
                self.assertIsNone(given_away(scheme, ledger, 0))
                attempt(knower, ("ask", 0, 0), writes=cut)
                knower.restart()
                for question in (1, 0, 1):
                    knower.ask(0, question)
                self.assertIsNone(given_away(scheme, ledger, 0))
                self.assertIsNone(given_away(scheme, ledger, 1))

    def test_a_careless_knower_gives_its_witness_away(self):
        for scheme, witness in (
            (OF_OR, (1, 0)), (OF_OR, (1, 1)), (EDGES, (1, 0)), (RING, (0, 1, 2, 3)), (EITHER, (1, (0, 1))),
            (scheme_of(either(AND, NEVER)), (0, (1, 1))),
        ):
            for number in range(12):
                for cut, told in ((0, None), (1, None), (2, witness), (3, None)):
                    ledger = Ledger()
                    knower = new_knower([scheme], [witness], [number], ledger=ledger, careful=False)
                    knower.offer(0)
                    attempt(knower, ("ask", 0, 1), writes=cut)
                    knower.restart()
                    knower.ask(0, 0)
                    self.assertEqual(given_away(scheme, ledger, 0), told)

    def test_the_first_letters_count(self):
        contents = OF_OR.fill((1, 0), 3)
        words = [OF_OR.word((1, 0), 3, question) for question in (0, 1)]
        ledger = Ledger()
        ledger.seal(5, contents)
        ledger.reveal(5, tuple(range(OF_OR.boxes)))
        # Other letters and those about other deals do not count.
        ledger.post(("ask", 5, 1))
        ledger.post(("reply", 4, 1, words[1]))
        ledger.post(("reply", 5, 1, words[1]))
        ledger.post(("reply", 5, 7, (0,)))
        self.assertIsNone(given_away(OF_OR, ledger, 5))
        ledger.post(("reply", 5, 0, words[0]))
        self.assertEqual(given_away(OF_OR, ledger, 5), (1, 0))
        ledger.post(("reply", 5, 1, (9, 9)))
        self.assertEqual(given_away(OF_OR, ledger, 5), (1, 0))
        other = Ledger()
        other.seal(5, contents)
        other.reveal(5, tuple(range(OF_OR.boxes)))
        other.post(("reply", 5, 1, (9, 9)))
        other.post(("reply", 5, 1, words[1]))
        other.post(("reply", 5, 0, words[0]))
        self.assertIsNone(given_away(OF_OR, other, 5))

    def test_hidden_boxes_give_nothing_away(self):
        ledger = Ledger()
        ledger.seal(0, OF_OR.fill((1, 0), 3))
        for question in (0, 1):
            ledger.post(("reply", 0, question, OF_OR.word((1, 0), 3, question)))
        self.assertIsNone(given_away(OF_OR, ledger, 0))
        not_sealed = Ledger()
        for letter in ledger.letters:
            not_sealed.post(letter)
        self.assertIsNone(given_away(OF_OR, not_sealed, 0))

    def test_tables_and_single_questions(self):
        ledger = Ledger()
        knower = new_knower([made(OPEN)], [1], [0], ledger=ledger, careful=False)
        knower.offer(0)
        for question, cut in ((0, 2), (1, 2), (2, None)):
            attempt(knower, ("ask", 0, question), writes=cut)
            knower.restart()
        self.assertEqual(len([letter for letter in ledger.letters if letter[0] == "reply"]), 3)
        self.assertIsNone(given_away(made(OPEN), ledger, 0))
        # One question alone tells all that the scheme hides.
        ledger = Ledger()
        knower = new_knower([ONE_EDGE], [(1, 0)], [1], ledger=ledger)
        knower.offer(0)
        self.assertIsNone(given_away(ONE_EDGE, ledger, 0))
        knower.ask(0, 0)
        self.assertEqual(given_away(ONE_EDGE, ledger, 0), (0, 1))


if __name__ == "__main__":
    unittest.main()
