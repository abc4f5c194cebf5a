"""Points 123 to 126: cheats with plans face askers that may crash."""

import copy
import itertools
import random
import unittest

from interface import InterfaceChecks
from program_samples import COLORS, EDGES, OF_OR, POINT, QUIET
from provedunseen.building import scheme_of
from provedunseen.cheats import guess_filling
from provedunseen.colorings import ColorScheme
from provedunseen.errors import BadPlan, BadSchedule, TapeEnd, TooLarge
from provedunseen.plans import best_plan, guess_plan, passed_rows, plan_chance
from provedunseen.statements import alike, both, colors
from provedunseen.trials import trial, trial_count
from samples import AND, EDGE, FALSE_RING, NEVER, full

SIGNS = "0123456789abcde"
FALSE = scheme_of(alike(EDGE, (2, ())))
FALSE_CIRCUIT = scheme_of(NEVER)
FALSE_BOTH = scheme_of(both(AND, NEVER))
FALSE_RINGS = scheme_of(FALSE_RING)
TRIANGLE = ColorScheme(colors(full(3), 2))
BLANKS = (-1,) * FALSE.boxes


def texts_before(scheme, deals):
    return ["".join(SIGNS[question] for question in row) for size in range(deals)
            for row in itertools.product(range(scheme.questions), repeat=size)]


def random_plan(chance, scheme, deals):
    """Some plan: each word may be good, wrong, or None."""
    plan = {}
    for text in texts_before(scheme, deals):
        question = chance.randrange(scheme.questions)
        contents, word = guess_filling(scheme, question, chance.randrange(scheme.draws))
        if chance.random() < 0.3:
            contents = tuple(chance.choice((-1, 0, 1)) for _ in contents)
        words = [chance.choice([None, (7,), (), scheme.answer(contents, asked)]) for asked in range(scheme.questions)]
        words[question] = chance.choice([word, word, None])
        plan[text] = (contents, tuple(words))
    return plan


def trial_by_hand(scheme, plan, deals, coins, cuts, patience, careful=True):
    """The verdict, by what the asker remembers of the deal that is played."""
    coins, cuts, row, bits = list(coins), list(cuts), "", []

    def verdict():
        return "no" if 0 in bits else "yes" if len(bits) == deals else "open"

    def next_cut():
        return cuts.pop(0) if cuts else 99

    while len(bits) < deals:
        contents, words = plan[row]
        known, tries = None, patience
        while True:
            # The asker hears of the sealed deal.
            left = next_cut()
            if known is None:
                if not coins:
                    raise TapeEnd("no coin is left")
                known = coins.pop(0) % scheme.questions
                if careful:
                    if left == 0:
                        known = None
                        continue
                    left -= 1
            if left == 0:
                known = known if careful else None
                continue
            question, word = known, words[known]
            if word is None:
                if tries == 0:
                    return verdict()
                tries -= 1
            elif next_cut() > 0:
                bits.append(int(scheme.accepts(contents, question, word)))
                row += SIGNS[question]
                break
            if not careful:
                known = None
    return verdict()


class TrialTest(unittest.TestCase, InterfaceChecks):
    def test_interface(self):
        self.check_functions("trials", {
            "trial": "(scheme, plan, deals, coins, cuts, patience, *, careful=True)",
            "trial_count": "(scheme, plan, deals, length, cuts, patience, *, careful=True)",
        })

    def test_by_hand(self):
        # The cheat passes question 1 alone, and has no word for question 0.
        guess = guess_plan(FALSE, (1,), (0,))
        for coins, verdict in (((1,), "yes"), ((0,), "open"), ((3,), "yes"), ((8, 1), "open"), ((1, 0), "yes")):
            self.assertEqual(trial(FALSE, guess, 1, coins, (), 0), verdict)
            # However often it lets a careful asker restart, the question stays.
            self.assertEqual(trial(FALSE, guess, 1, coins, (), 3), verdict)
        for patience in range(4):
            for lost in range(4):
                verdict = "yes" if lost <= patience else "open"
                coins = (0,) * lost + (1, 1, 1, 1)
                self.assertEqual(trial(FALSE, guess, 1, coins, (), patience, careful=False), verdict)
        # It answers question 0 with a wrong word.
        wrong = {"": (guess[""][0], ((9,), guess[""][1][1]))}
        self.assertEqual([trial(FALSE, wrong, 1, (coin,), (), 2) for coin in (0, 1)], ["no", "yes"])
        unshown = {"": (BLANKS, ((), ()))}
        self.assertEqual([trial(FALSE, unshown, 1, (coin,), (), 2) for coin in (0, 1)], ["no", "no"])

    def test_two_deals_by_hand(self):
        guess = guess_plan(FALSE, (1, 0), (0, 1))
        verdicts = {coins: trial(FALSE, guess, 2, coins, (), 1) for coins in itertools.product((0, 1), repeat=2)}
        self.assertEqual(verdicts, {(0, 0): "open", (0, 1): "open", (1, 0): "yes", (1, 1): "open"})
        # A bad reply in the first deal: the second one is played all the same.
        plan = {"": (BLANKS, ((), ())), "0": (BLANKS, (None, None)), "1": (BLANKS, ((), None))}
        self.assertEqual([trial(FALSE, plan, 2, coins, (), 0) for coins in ((0, 0), (1, 0), (1, 1))], ["no"] * 3)
        with self.assertRaises(TapeEnd):
            trial(FALSE, plan, 2, (0,), (), 0)

    def test_cuts_by_hand(self):
        guess = guess_plan(FALSE, (1,), (0,))
        for cuts, coins, verdict in (
            # A crash before the row: the next coin decides.
            ((0,), (0, 1), "yes"), ((0,), (1, 0), "open"), ((0, 0), (0, 0, 1), "yes"),
            ((0,) * 6, (0,) * 6 + (1,), "yes"),
            # A crash behind the row: the question stays.
            ((1,), (1,), "yes"), ((1,), (0, 1), "open"), ((1, 0, 0), (1,), "yes"), ((2, 0, 0, 0), (1,), "yes"),
            ((9, 9, 9, 9, 9, 9), (1,), "yes"),
            # A crash over the reply, and behind it one over the letter that it is sealed.
            ((2, 0), (1,), "yes"), ((2, 0, 0), (1,), "yes"), ((2, 0, 1, 0), (1,), "yes"),
        ):
            self.assertEqual(trial(FALSE, guess, 1, coins, cuts, 0), verdict)
            if len(cuts) < 6:
                with self.assertRaises(TapeEnd):
                    trial(FALSE, guess, 1, coins[:cuts.count(0) if cuts[0] == 0 else 0], cuts, 0)
        # Careless, it takes another coin behind each crash.
        for cuts, coins, verdict in (
            ((0,), (0, 1), "yes"), ((1,), (1,), "yes"), ((1, 0), (1, 1), "yes"), ((1, 0), (1, 0), "open"),
            ((1, 0, 0), (1, 1, 1), "yes"),
        ):
            self.assertEqual(trial(FALSE, guess, 1, coins, cuts, 0, careful=False), verdict)

    def test_wrong_cuts_and_patience(self):
        guess = guess_plan(FALSE, (1,), (0,))
        for cuts, patience in (
            ((0,) * 7, 0), ((10,), 0), ((-1,), 0), ((0, 9, 10), 1), ((0, -1, 0), 3), ((), 4), ((), -1), ((10,), 9),
        ):
            for coins in ((), (1,)):
                with self.assertRaises(BadSchedule):
                    trial(FALSE, guess, 1, coins, cuts, patience)
            with self.assertRaises(BadSchedule):
                trial_count(FALSE, guess, 1, 0, cuts, patience)
            for plan, deals in (({}, 1), (guess, 2), (guess, 0), (guess, 4), ({"": (BLANKS, ())}, 1),
                                ({"": (BLANKS[1:], (None, None))}, 1), ({"": ((100,) + BLANKS[1:], (None, None))}, 1)):
                with self.assertRaises(BadPlan):
                    trial(FALSE, plan, deals, (), cuts, patience)
        for cuts in ((), (0, 9, 0, 9, 0, 9)):
            for patience in range(4):
                self.assertEqual(trial(FALSE, guess, 1, (1,) * 4, cuts, patience), "yes")

    def test_the_end_of_the_coins(self):
        guess = guess_plan(FALSE, (1, 1), (0, 0))
        for coins, cuts in (((), ()), ((1,), ()), ((1, 1), (0,)), ((1, 1, 1), (0, 0))):
            with self.assertRaises(TapeEnd):
                trial(FALSE, guess, 2, coins, cuts, 0)
        with self.assertRaises(TapeEnd):
            trial(FALSE, guess, 2, (0,), (), 1, careful=False)
        self.assertEqual(trial(FALSE, guess, 2, (0,), (), 1), "open")

    def test_trials_of_chance(self):
        chance = random.Random(29)
        schemes = [FALSE, OF_OR, EDGES, QUIET, COLORS, POINT, TRIANGLE, FALSE_BOTH]
        for _ in range(900):
            scheme, deals = chance.choice(schemes), chance.randint(1, 3)
            plan = random_plan(chance, scheme, deals)
            coins = tuple(chance.randrange(12) for _ in range(chance.choice((2, 5, 30))))
            cuts = tuple(chance.choice((0, 0, 1, 2, 9)) for _ in range(chance.randint(0, 6)))
            patience, careful = chance.randint(0, 3), chance.random() < 0.5
            try:
                verdict = trial_by_hand(scheme, plan, deals, coins, cuts, patience, careful)
            except TapeEnd:
                with self.assertRaises(TapeEnd):
                    trial(scheme, plan, deals, coins, cuts, patience, careful=careful)
            else:
                self.assertEqual(trial(scheme, plan, deals, coins, cuts, patience, careful=careful), verdict)

    def test_arguments_stay_as_they_were(self):
        chance = random.Random(1)
        for careful in (True, False):
            plan = random_plan(chance, FALSE, 3)
            before = copy.deepcopy(plan)
            coins, cuts = (0, 1) * 12, (0, 1, 2, 0)
            first = trial(FALSE, plan, 3, coins, cuts, 2, careful=careful)
            self.assertEqual((plan, coins, cuts), (before, (0, 1) * 12, (0, 1, 2, 0)))
            self.assertEqual(trial(FALSE, plan, 3, coins, cuts, 2, careful=careful), first)


class CountTest(unittest.TestCase):
    def test_by_hand(self):
        guess = guess_plan(FALSE, (1,), (0,))
        # Of each tape the first coin must be 1, or with one crash the second one.
        for length, many in ((1, 1), (2, 2), (5, 16)):
            self.assertEqual(trial_count(FALSE, guess, 1, length, (), 0), many)
            self.assertEqual(trial_count(FALSE, guess, 1, length, (1, 0), 3), many)
        self.assertEqual(trial_count(FALSE, guess, 1, 2, (0,), 0), 2)
        self.assertEqual(trial_count(FALSE, guess_plan(FALSE, (1, 0), (0, 0)), 2, 4, (0,), 0), 4)
        best = best_plan(TRIANGLE, 2, 2)
        self.assertEqual(trial_count(TRIANGLE, best, 2, 3, (), 0), 2 * 2 * 3)

    def test_as_many_as_the_plan_passes(self):
        chance = random.Random(17)
        for scheme in (FALSE, FALSE_CIRCUIT, FALSE_BOTH, OF_OR, TRIANGLE, COLORS, QUIET):
            for deals in (1, 2, 3):
                for _ in range(3):
                    plan = random_plan(chance, scheme, deals)
                    passed = len(passed_rows(scheme, plan, deals))
                    cuts = tuple(chance.choice((0, 1, 2, 9)) for _ in range(chance.randint(0, 3)))
                    length = deals + cuts.count(0)
                    if scheme.questions ** length <= 800:
                        found = trial_count(scheme, plan, deals, length, cuts, chance.randint(0, 3))
                        self.assertEqual(found, passed * scheme.questions ** (length - deals))

    def test_a_false_statement(self):
        for scheme in (FALSE, FALSE_CIRCUIT, FALSE_RINGS):
            for deals in (1, 2, 3):
                guess = guess_plan(scheme, (1, 0, 1)[:deals], (0,) * deals)
                self.assertEqual(trial_count(scheme, guess, deals, 6, (0, 1), 3), 2 ** (6 - deals))
                self.assertEqual(plan_chance(scheme, guess, deals).whole, 2 ** deals)

    def test_an_asker_that_is_not_careful(self):
        for deals in (1, 2, 3):
            for patience in range(4):
                length = deals * (patience + 1)
                if 2 ** length > 3000:
                    continue
                guess = guess_plan(FALSE, (1, 0, 0)[:deals], (1, 0, 1)[:deals])
                # Each deal is lost at one of 2 ** (patience + 1) rows of coins.
                share = (2 ** (patience + 1) - 1) ** deals
                found = trial_count(FALSE, guess, deals, length, (), patience, careful=False)
                self.assertEqual(found * 2 ** (deals * (patience + 1)), share * 2 ** length)

    def test_errors_in_their_order(self):
        guess = guess_plan(FALSE, (1,), (0,))
        for plan, cuts, patience in (({}, (10,), 9), (guess, (10,), 9), (guess, (), 0)):
            with self.assertRaises(TooLarge):
                trial_count(FALSE, plan, 1, 12, cuts, patience)
        with self.assertRaises(TooLarge):
            trial_count(COLORS, {}, 1, 8, (), 0)
        with self.assertRaises(BadPlan):
            trial_count(FALSE, {}, 1, 11, (10,), 9)
        with self.assertRaises(BadPlan):
            trial_count(FALSE, guess, 4, 0, (10,), 9)
        with self.assertRaises(BadSchedule):
            trial_count(FALSE, guess, 1, 0, (10,), 0)
        for length, cuts in ((0, ()), (1, (0,)), (2, (0, 0))):
            with self.assertRaises(TapeEnd):
                trial_count(FALSE, guess, 1, length, cuts, 0)
        with self.assertRaises(TapeEnd):
            trial_count(FALSE, guess, 1, 1, (), 1, careful=False)
        self.assertEqual(trial_count(FALSE, guess, 1, 11, (), 0), 2 ** 10)


if __name__ == "__main__":
    unittest.main()
