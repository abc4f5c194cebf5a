"""Points 119 to 122: logs of askers, and what an asker writes up to a crash."""

import inspect
import random
import unittest

from interface import InterfaceChecks, methods_in
from journals import SPENT, NotingBudget, NotingLedger, NotingLog, writes_in
from program_samples import COLORS, EDGES, OF_OR, POINT, QUIET
from provedunseen.askers import Asker, asks_of
from provedunseen.errors import BadLog, Crash, TapeEnd
from provedunseen.ledgers import Budget, Ledger, Tape

BAD_ROWS = [
    (), ("asks",), ("asks", 1), ("asks", 1, 0, 0), ("judged",), ("judged", 1), ("judged", 1, 0, 0), ("Asks", 1, 0),
    ("asked", 1, 0), ("filled", 1, 0, 0), ("filled", 1, 0), ("", 1, 0), ("ask", 1, 0), ("sealed", 1, 0),
    ("asks", -1, 0), ("asks", 1, -1), ("judged", -1, 0), ("judged", 1, -1), ("judged", 1, 2), ("judged", 1, 99),
    ("asks", 0, 0), ("asks", 0, 3), ("judged", 5, 1), ("judged", 5, 0),
]


class LogTest(unittest.TestCase, InterfaceChecks):
    def test_interface(self):
        self.check_functions("askers", {"asks_of": "(rows)"})
        self.check_methods("askers", "Asker", {
            "__init__": "(self, scheme, count, coins, log, ledger, budget, *, careful=True)",
            "restart": "(self)", "hear": "(self, letter)",
        })
        self.assertIn("verdict", methods_in("askers", "Asker"))
        self.assertIsInstance(Asker.verdict, property)
        self.assertIs(inspect.signature(Asker).parameters["careful"].default, True)

    def test_possible_logs(self):
        for rows, asked, judged in (
            ([], [], []),
            ([("asks", 4, 1)], [(4, 1)], []),
            ([("judged", 3, 0)], [], [(3, 0)]),
            ([("asks", 4, 1), ("asks", 0, 7), ("judged", 0, 1), ("asks", 2, 0), ("judged", 4, 0), ("judged", 9, 1)],
             [(4, 1), (0, 7), (2, 0)], [(0, 1), (4, 0), (9, 1)]),
            ([("judged", 1, 1), ("asks", 1, 10 ** 9)], [(1, 10 ** 9)], [(1, 1)]),
        ):
            before = list(rows)
            found = asks_of(rows)
            self.assertEqual(found, (asked, judged))
            self.assertEqual([type(each) for each in (found, *found)], [tuple, list, list])
            found[0].append("changed")
            found[1].clear()
            self.assertEqual(asks_of(rows), (asked, judged))
            self.assertEqual(rows, before)

    def test_each_impossible_row(self):
        ahead = [("asks", 0, 0), ("judged", 5, 1)]
        for row in BAD_ROWS:
            for behind in ([], [()], [("asks", 3, 0)]):
                with self.subTest(row=row):
                    with self.assertRaises(BadLog) as caught:
                        asks_of(ahead + [row] + behind)
                    self.assertEqual(caught.exception.place, 2)
        for rows, place in (
            ([()], 0), ([("judged", 0, 2), ()], 0), ([("asks", 0, 2), ("judged", 0, 1), ("asks", 0, 2)], 2),
        ):
            with self.assertRaises(BadLog) as caught:
                asks_of(rows)
            self.assertEqual(caught.exception.place, place)


def new_asker(scheme, count, coins, log=None, ledger=None, **more):
    return Asker(scheme, count, Tape(coins), [] if log is None else log, Ledger() if ledger is None else ledger,
                 Budget(), **more)


class MakingTest(unittest.TestCase):
    def test_a_new_asker(self):
        asker = new_asker(OF_OR, 2, [])
        self.assertEqual((asker.questions, asker.bits, asker.up, asker.verdict), ({}, {}, True, "open"))

    def test_from_a_log(self):
        log = [("asks", 4, 1), ("asks", 0, 0), ("judged", 0, 1), ("judged", 7, 1)]
        rows = list(log)
        asker = new_asker(OF_OR, 2, [], log)
        self.assertEqual(list(asker.questions.items()), [(4, 1), (0, 0)])
        self.assertEqual(list(asker.bits.items()), [(0, 1), (7, 1)])
        self.assertIs(type(asker.questions), dict)
        self.assertIs(type(asker.bits), dict)
        self.assertEqual((asker.up, asker.verdict, log), (True, "yes", rows))

    def test_impossible_logs(self):
        for careful in (True, False):
            with self.assertRaises(BadLog) as caught:
                new_asker(OF_OR, 1, [], [("asks", 0, 0), ()], careful=careful)
            self.assertEqual(caught.exception.place, 1)
            log = [("asks", 3, 1)]
            asker = new_asker(OF_OR, 1, [], log, careful=careful)
            log.append(("judged", 3, 5))
            with self.assertRaises(BadLog) as caught:
                asker.restart()
            self.assertEqual(caught.exception.place, 1)
            self.assertEqual((asker.questions, asker.bits), ({3: 1}, {}))

    def test_it_keeps_the_very_objects(self):
        log, ledger, coins, budget = [], Ledger(), Tape([1, 0]), Budget()
        asker = Asker(OF_OR, 1, coins, log, ledger, budget)
        ledger.seal(2, (0,) * OF_OR.boxes)
        budget.allow(5)
        self.assertIsNone(asker.hear(("sealed", 2, 0)))
        self.assertEqual((log, ledger.letters, coins.place, budget.left), ([("asks", 2, 1)], [("ask", 2, 1)], 1, 3))

    def test_restart_reads_the_log(self):
        log = [("asks", 1, 1)]
        asker = new_asker(OF_OR, 3, [], log)
        log.append(("judged", 1, 0))
        self.assertIsNone(asker.restart())
        self.assertEqual((asker.questions, asker.bits, asker.up), ({1: 1}, {1: 0}, True))


class Scene:
    """An asker with a journal, on a ledger with boxes, and what the document says that it does."""

    def __init__(self, scheme, count, coins, careful):
        self.scheme, self.count, self.coins, self.careful = scheme, count, coins, careful
        self.journal = []
        self.tape, self.log = Tape(coins), NotingLog(self.journal)
        self.ledger, self.budget = NotingLedger(self.journal), NotingBudget(self.journal)
        self.asker = self.made()
        self.questions, self.bits, self.rows, self.letters, self.taken, self.up = {}, {}, [], [], 0, True

    def made(self):
        return Asker(self.scheme, self.count, self.tape, self.log, self.ledger, self.budget, careful=self.careful)

    def restart(self):
        """What a restart and a new asker remember."""
        self.questions = {deal: number for word, deal, number in self.rows if word == "asks"}
        self.bits = {deal: number for word, deal, number in self.rows if word == "judged"}
        self.up = True

    def write(self, write, left):
        """Make a write if one is left; return how many are left, or -1 for a crash."""
        if left == 0:
            self.up = False
            return -1
        (self.rows if write[0] == "row" else self.letters).append(write[1])
        return left - 1

    def hear(self, letter, left):
        """What is behind the letter; None if the tape ends."""
        if letter[0] == "sealed":
            deal = letter[1]
            if not self.ledger.is_sealed(deal) or deal in self.bits:
                return
            if deal not in self.questions and len(set(self.questions) | set(self.bits)) < self.count:
                question = self.coins[self.taken] % self.scheme.questions
                self.taken += 1
                if self.careful:
                    left = self.write(("row", ("asks", deal, question)), left)
                    if left < 0:
                        return
                self.questions[deal] = question
            if deal in self.questions:
                self.write(("letter", ("ask", deal, self.questions[deal])), left)
        elif letter[0] == "reply":
            _, deal, question, word = letter
            if deal in self.bits or deal not in self.questions or self.questions[deal] != question:
                return
            bit = 0
            if word in self.scheme.words(question):
                shown = dict(self.ledger.shown(deal))
                boxes = self.scheme.boxes_for(question, word)
                if any(box not in shown for box in boxes):
                    return
                bit = int(self.scheme.judge(question, word, tuple(shown[box] for box in boxes)))
            left = self.write(("row", ("judged", deal, bit)), left)
            if left >= 0:
                self.bits[deal] = bit

    def verdict(self):
        if 0 in self.bits.values():
            return "no"
        return "yes" if len(self.bits) >= self.count else "open"


class HearingTest(unittest.TestCase):
    def hear(self, scene, letter, cut=None):
        """Let both hear, and compare them."""
        before, taken = len(scene.journal), scene.taken
        rows, letters = len(scene.rows), len(scene.letters)
        scene.budget.allow(cut)
        scene.hear(letter, 99 if cut is None else cut)
        if scene.up:
            self.assertIsNone(scene.asker.hear(letter))
        else:
            with self.assertRaises(Crash):
                scene.asker.hear(letter)
        journal = scene.journal[before:]
        expected = [("row", row) for row in scene.rows[rows:]] + [("letter", each) for each in scene.letters[letters:]]
        self.assertEqual(writes_in(journal), expected)
        self.assertEqual(journal.count(SPENT), len(expected) + (not scene.up))
        self.assertIn(scene.taken - taken, (0, 1))
        self.check(scene)

    def check(self, scene):
        asker = scene.asker
        self.assertEqual(list(asker.questions.items()), list(scene.questions.items()))
        self.assertEqual(list(asker.bits.items()), list(scene.bits.items()))
        self.assertEqual((asker.up, asker.verdict), (scene.up, scene.verdict()))
        self.assertEqual((scene.tape.place, list(scene.log)), (scene.taken, scene.rows))

    def restart(self, scene, anew):
        scene.restart()
        if anew:
            scene.asker = scene.made()
        else:
            scene.asker.restart()
        self.check(scene)

    def seal(self, scene, deal, contents, boxes=()):
        """Seal a deal, and reveal these boxes."""
        Ledger.seal(scene.ledger, deal, contents)
        Ledger.reveal(scene.ledger, deal, boxes)

    def test_a_deal_from_its_seal_to_its_bit(self):
        for scheme, witness in ((OF_OR, (1, 0)), (EDGES, (1, 0)), (COLORS, (0, 1, 2)), (QUIET, 1)):
            for coin in range(3):
                for careful in (True, False):
                    scene = Scene(scheme, 1, [coin, 5, 6], careful)
                    question = coin % scheme.questions
                    word, _ = scheme.reply(witness, 0, question)
                    self.seal(scene, 4, scheme.fill(witness, 0))
                    self.hear(scene, ("sealed", 4, 0))
                    self.hear(scene, ("sealed", 4, 0))
                    self.assertEqual(scene.asker.questions, {4: question})
                    self.assertEqual(scene.letters, [("ask", 4, question)] * 2)
                    if scheme.boxes_for(question, word) != ():
                        # Some box is not revealed yet.
                        self.hear(scene, ("reply", 4, question, word))
                        self.assertEqual(scene.asker.bits, {})
                    scene.ledger.reveal(4, scheme.boxes_for(question, word))
                    del scene.journal[-1]
                    self.hear(scene, ("reply", 4, question, word))
                    self.assertEqual((scene.asker.bits, scene.asker.verdict), ({4: 1}, "yes"))
                    for letter in (("reply", 4, question, word), ("reply", 4, question, (9,)), ("sealed", 4, 0)):
                        self.hear(scene, letter)
                    self.assertEqual(scene.asker.bits, {4: 1})

    def test_letters_that_are_ignored(self):
        for careful in (True, False):
            scene = Scene(OF_OR, 2, [1, 0, 1, 0], careful)
            word, _ = OF_OR.reply((1, 0), 0, 1)
            everything = tuple(range(OF_OR.boxes))
            self.hear(scene, ("sealed", 0, 0))
            self.seal(scene, 0, OF_OR.fill((1, 0), 0), everything)
            self.seal(scene, 1, OF_OR.fill((1, 0), 0), everything)
            for letter in (("ask", 0, 1), ("none", 0), ("reply", 0, 1, word), ("reply", 0, 0, ()), ("sealed", 2, 0)):
                self.hear(scene, letter)
            self.assertEqual((scene.taken, scene.rows, scene.letters), (0, [], []))
            self.hear(scene, ("sealed", 0, 0))
            # Replies to the other question, and about another deal.
            for letter in (
                ("reply", 0, 0, ()), ("reply", 1, 1, word), ("reply", 7, 1, word), ("none", 0), ("ask", 0, 1),
            ):
                self.hear(scene, letter)
            self.assertEqual(scene.bits, {})
            self.hear(scene, ("reply", 0, 1, word))
            self.assertEqual(scene.bits, {0: 1})

    def test_replies_that_are_not_accepted(self):
        wrong = tuple(1 - content for content in OF_OR.fill((1, 0), 0))
        everything = tuple(range(OF_OR.boxes))
        word, _ = OF_OR.reply((1, 0), 0, 1)
        for contents, boxes, given in (
            (wrong, everything, word), (OF_OR.fill((1, 0), 0), everything, (9,)), (OF_OR.fill((1, 0), 0), (), (9,)),
            (OF_OR.fill((1, 0), 0), (), ()),
        ):
            scene = Scene(OF_OR, 1, [1], True)
            self.seal(scene, 0, contents, boxes)
            self.hear(scene, ("sealed", 0, 0))
            self.hear(scene, ("reply", 0, 1, given))
            self.assertEqual((scene.asker.bits, scene.asker.verdict), ({0: 0}, "no"))
            # Nothing changes the bit.
            scene.ledger.reveal(0, everything)
            del scene.journal[-1]
            self.hear(scene, ("reply", 0, 1, word))
            self.assertEqual(scene.asker.verdict, "no")

    def test_no_more_deals_than_wanted(self):
        for count in (1, 2, 3):
            for careful in (True, False):
                scene = Scene(POINT, count, [0] * 20, careful)
                for deal in range(5):
                    self.seal(scene, deal, (0, 0), (0, 1))
                for deal in range(5):
                    self.hear(scene, ("sealed", deal, 0))
                self.assertEqual(list(scene.asker.questions), list(range(count)))
                for deal in range(5):
                    self.assertEqual(scene.asker.verdict, "open" if deal < count else "yes")
                    self.hear(scene, ("reply", deal, 0, ()))
                for deal in range(5):
                    self.hear(scene, ("sealed", deal, 0))
                self.assertEqual(scene.asker.bits, dict.fromkeys(range(count), 1))

    def test_forgotten_questions_leave_room_but_judged_deals_do_not(self):
        scene = Scene(POINT, 2, [0, 1, 1, 0, 1], False)
        for deal in range(3):
            self.seal(scene, deal, (0, 0), (0, 1))
        self.hear(scene, ("sealed", 0, 0))
        self.hear(scene, ("reply", 0, 0, ()))
        self.hear(scene, ("sealed", 1, 0))
        self.assertEqual(list(scene.asker.questions.items()), [(0, 0), (1, 1)])
        self.restart(scene, False)
        self.assertEqual((scene.asker.questions, scene.asker.bits), ({}, {0: 1}))
        self.hear(scene, ("reply", 1, 1, ()))
        self.hear(scene, ("sealed", 2, 0))
        self.hear(scene, ("sealed", 1, 0))
        self.assertEqual((scene.asker.questions, scene.asker.bits), ({2: 1}, {0: 1}))
        self.hear(scene, ("reply", 2, 1, ()))
        self.assertEqual(scene.asker.verdict, "yes")

    def test_a_crash_at_every_write(self):
        for careful in (True, False):
            for anew in (False, True):
                for cut in (0, 1, 2, None):
                    scene = Scene(POINT, 1, [1, 0, 1, 0], careful)
                    self.seal(scene, 0, (0, 0), (0, 1))
                    self.hear(scene, ("sealed", 0, 0), cut)
                    if not scene.asker.up:
                        for letter in (("sealed", 0, 0), ("none", 3), ("ask", 0, 0), ("reply", 0, 1, ())):
                            with self.assertRaises(Crash):
                                scene.asker.hear(letter)
                        self.check(scene)
                    else:
                        self.hear(scene, ("sealed", 0, 0), 1)
                    self.restart(scene, anew)
                    self.hear(scene, ("sealed", 0, 0), None)
                    # A careful one that has written its row stays with its question.
                    if careful and cut != 0:
                        self.assertEqual(scene.asker.questions, {0: 1})
                        self.assertEqual(scene.taken, 1)
                    else:
                        self.assertEqual(scene.asker.questions, {0: 0})
                        self.assertEqual(scene.taken, 2)
                    question = scene.asker.questions[0]
                    self.hear(scene, ("reply", 0, question, ()), 0)
                    self.assertEqual((scene.asker.bits, scene.asker.up), ({}, False))
                    self.restart(scene, anew)
                    if not careful:
                        self.hear(scene, ("reply", 0, question, ()), 1)
                        self.assertEqual(scene.asker.bits, {})
                        self.hear(scene, ("sealed", 0, 0))
                        question = scene.asker.questions[0]
                    self.hear(scene, ("reply", 0, question, ()), 1)
                    self.assertEqual((scene.asker.bits, scene.asker.verdict), ({0: 1}, "yes"))
                    self.restart(scene, anew)
                    self.assertEqual(scene.asker.verdict, "yes")

    def test_the_end_of_the_coins(self):
        for careful in (True, False):
            scene = Scene(POINT, 3, [1], careful)
            for deal in range(2):
                self.seal(scene, deal, (0, 0))
            self.hear(scene, ("sealed", 0, 0))
            for _ in range(2):
                with self.assertRaises(TapeEnd):
                    scene.asker.hear(("sealed", 1, 0))
                self.check(scene)
            self.hear(scene, ("sealed", 0, 0))

    def test_verdicts(self):
        for count, bits, verdict in (
            (1, [], "open"), (1, [1], "yes"), (1, [0], "no"), (2, [1], "open"), (2, [0], "no"), (2, [1, 1], "yes"),
            (2, [1, 0], "no"), (3, [1, 1], "open"), (3, [1, 1, 1], "yes"), (3, [1, 1, 0], "no"), (1, [1, 1, 1], "yes"),
            (1, [1, 0], "no"),
        ):
            asker = new_asker(POINT, count, [], [("judged", deal, bit) for deal, bit in enumerate(bits)])
            self.assertEqual(asker.verdict, verdict)

    def test_walks_of_chance(self):
        chance = random.Random(13)
        schemes = [(POINT, (0,)), (OF_OR, (0, 1)), (QUIET, 1), (EDGES, (1, 0)), (COLORS, (1, 2, 0))]
        for at in range(160):
            scheme, witness = chance.choice(schemes)
            scene = Scene(scheme, chance.randint(1, 3), [chance.randrange(9) for _ in range(60)], at % 2 == 0)
            for _ in range(30):
                action, deal = chance.random(), chance.randint(0, 4)
                if not scene.up or action < 0.05:
                    self.restart(scene, chance.random() < 0.5)
                elif action < 0.2:
                    if not scene.ledger.is_sealed(deal):
                        contents = scheme.fill(witness, chance.randrange(scheme.draws))
                        if chance.random() < 0.3:
                            contents = tuple(chance.choice((-1, 0, 1, 2)) for _ in contents)
                        self.seal(scene, deal, contents)
                    boxes = [box for box in range(scheme.boxes) if chance.random() < 0.7]
                    Ledger.reveal(scene.ledger, deal, tuple(boxes))
                else:
                    question = chance.randrange(scheme.questions)
                    word = chance.choice([*scheme.words(question), (7,), (0, 0, 0, 0, 0, 0, 0)])
                    letter = chance.choice([("sealed", deal, 0), ("sealed", deal, 0), ("reply", deal, question, word),
                                            ("reply", deal, question, word), ("ask", deal, 0), ("none", deal)])
                    self.hear(scene, letter, chance.choice((None, None, 0, 1, 2)))


if __name__ == "__main__":
    unittest.main()
