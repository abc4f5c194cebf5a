"""Points 59 and 60: plans for deals side by side."""

import itertools
import random
import unittest
from fractions import Fraction

from interface import InterfaceChecks
from provedunseen.cheats import best_filling, guess_filling
from provedunseen.circuits import CircuitScheme
from provedunseen.colorings import ColorScheme
from provedunseen.errors import BadContents, BadDraw, BadPlan, BadQuestion, LeakyTable, NothingExtracted, TooLarge
from provedunseen.likenesses import AlikeScheme
from provedunseen.ratios import Ratio
from provedunseen.statements import alike, circuit, colors
from provedunseen.together import (
    best_together, check_together, extract_from_together, guess_together, passed_together, together_chance,
)
from samples import EDGE, full
from table_samples import COINS, MANY, OPEN, WORDS, made

SIGNS = "0123456789abcde"
FALSE = AlikeScheme(alike(EDGE, (2, ())))
TRUE = AlikeScheme(alike(EDGE, EDGE))
OR = CircuitScheme(circuit(2, [("or", 0, 1)]))
SCHEMES = [made(data) for data in MANY[:20] if not made(data).leak] + [FALSE, TRUE, OR]


def all_rows(scheme, deals):
    return list(itertools.product(range(scheme.questions), repeat=deals))


def text_of(row):
    return "".join(SIGNS[question] for question in row)


def random_plan(chance, scheme, deals):
    """Some plan: guesses or any contents, and words that may be good, wrong, or None."""
    fillings = []
    for _ in range(deals):
        if chance.random() < 0.5:
            question = chance.randrange(scheme.questions)
            fillings.append(guess_filling(scheme, question, chance.randrange(scheme.draws))[0])
        else:
            fillings.append(tuple(chance.choice((-1, 0, 1)) for _ in range(scheme.boxes)))
    replies = {}
    for row in all_rows(scheme, deals):
        words = [chance.choice([None, (7,), scheme.answer(contents, question), *scheme.words(question)])
                 for contents, question in zip(fillings, row)]
        replies[text_of(row)] = tuple(words)
    return (tuple(fillings), replies)


def knower_plan(scheme, witnesses):
    draw = scheme.draws - 1
    fillings = tuple(scheme.fill(witness, draw) for witness in witnesses)
    replies = {text_of(row): tuple(scheme.word(witness, draw, question) for witness, question in zip(witnesses, row))
               for row in all_rows(scheme, len(witnesses))}
    return (fillings, replies)


def rows_passed(scheme, plan, deals):
    fillings, replies = plan
    return [row for row in all_rows(scheme, deals) if all(
        replies[text_of(row)][place] is not None
        and scheme.accepts(fillings[place], question, replies[text_of(row)][place])
        for place, question in enumerate(row)
    )]


class PlanTest(unittest.TestCase, InterfaceChecks):
    def test_interface(self):
        self.check_functions("together", {
            "check_together": "(scheme, plan, deals)", "passed_together": "(scheme, plan, deals)",
            "together_chance": "(scheme, plan, deals)", "best_together": "(scheme, signs, deals)",
            "guess_together": "(scheme, row, draws)", "extract_from_together": "(scheme, plan, deals)",
        })

    def test_good_plans(self):
        for scheme in SCHEMES:
            for deals in (1, 2, 3):
                self.assertIsNone(check_together(scheme, random_plan(random.Random(deals), scheme, deals), deals))
        fillings = ((-1,) * TRUE.boxes, (99,) * TRUE.boxes)
        plan = (fillings, {text_of(row): (None, (4, -9)) for row in all_rows(TRUE, 2)})
        self.assertIsNone(check_together(TRUE, plan, 2))
        self.assertEqual(passed_together(TRUE, plan, 2), [])

    def broken_plans(self, deals):
        fillings, replies = knower_plan(TRUE, [(0, 1)] * deals)
        for wrong in ((), fillings[1:], fillings + fillings[:1]):
            yield (wrong, replies)
        first = fillings[0]
        for wrong in ((), first[1:], first + (0,), (-2,) + first[1:], first[:-1] + (100,), (10 ** 9,) * TRUE.boxes):
            yield ((wrong,) + fillings[1:], replies)
            yield (fillings[:-1] + (wrong,), replies)
        last = max(replies)
        yield (fillings, {})
        for key in replies:
            yield (fillings, {each: replies[each] for each in replies if each != key})
        for key in ("", "2", "0" * (deals + 1), "0" * (deals - 1), "2" * deals, "x" * deals):
            yield (fillings, {**replies, key: replies[last]})
            yield (fillings, {**{each: replies[each] for each in replies if each != last}, key: replies[last]})
        for wrong in ((), replies[last][1:], replies[last] + ((),), (None,) * (deals + 2)):
            yield (fillings, {**replies, last: wrong})

    def test_broken_plans(self):
        for deals in (1, 2, 3):
            for plan in self.broken_plans(deals):
                for call in (check_together, passed_together, together_chance, extract_from_together):
                    with self.assertRaises(BadPlan):
                        call(TRUE, plan, deals)

    def test_number_of_deals(self):
        for deals in (-1, 0, 4, 5):
            for plan in (knower_plan(TRUE, [(0, 1)] * 4), knower_plan(TRUE, [(0, 1)]), ((), {}), ((), {"": ()})):
                for call in (check_together, passed_together, together_chance, extract_from_together):
                    with self.assertRaises(BadPlan):
                        call(TRUE, plan, deals)
        with self.assertRaises(BadPlan):
            check_together(TRUE, knower_plan(TRUE, [(0, 1)] * 2), 3)


class RowsTest(unittest.TestCase):
    def test_rows_and_chance(self):
        passing = 0
        for scheme in SCHEMES:
            for deals in (1, 2, 3):
                for seed in range(6):
                    plan = random_plan(random.Random(seed), scheme, deals)
                    copy = (plan[0], dict(plan[1]))
                    expected = rows_passed(scheme, plan, deals)
                    passing += len(expected)
                    rows = passed_together(scheme, plan, deals)
                    self.assertEqual(rows, expected)
                    ratio = together_chance(scheme, plan, deals)
                    fraction = Fraction(len(expected), scheme.questions ** deals)
                    self.assertIsInstance(ratio, Ratio)
                    self.assertEqual((ratio.part, ratio.whole), (fraction.numerator, fraction.denominator))
                    rows.append("changed")
                    self.assertEqual(passed_together(scheme, plan, deals), expected)
                    self.assertEqual(plan, copy)
        self.assertGreater(passing, 100)

    def test_words_may_depend_on_other_questions(self):
        fillings, replies = knower_plan(TRUE, [(0, 1), (1, 0)])
        replies["01"] = (None, ())
        replies["10"] = ((), (3,))
        self.assertEqual(passed_together(TRUE, (fillings, replies), 2), [(0, 0), (1, 1)])
        self.assertEqual(str(together_chance(TRUE, (fillings, replies), 2)), "1/2")


class BestTest(unittest.TestCase):
    def test_best_together(self):
        for scheme in SCHEMES:
            if scheme.boxes > 9:
                continue
            for signs in (1, 2):
                number, contents = best_filling(scheme, signs)
                for deals in (1, 2, 3):
                    fillings, replies = best_together(scheme, signs, deals)
                    self.assertEqual(fillings, (contents,) * deals)
                    self.assertEqual(replies, {
                        text_of(row): tuple(scheme.answer(contents, question) for question in row)
                        for row in all_rows(scheme, deals)
                    })
                    self.assertEqual(len(passed_together(scheme, (fillings, replies), deals)), number ** deals)

    def test_no_plan_passes_more(self):
        for data in (COINS, WORDS, OPEN):
            table = made(data)
            number, _ = best_filling(table, 2)
            for some, other in itertools.product(itertools.product((0, 1), repeat=table.boxes), repeat=2):
                replies = {text_of(row): (table.answer(some, row[0]), table.answer(other, row[1]))
                           for row in all_rows(table, 2)}
                self.assertLessEqual(len(passed_together(table, ((some, other), replies), 2)), number ** 2)

    def test_errors_in_their_order(self):
        for deals in (-1, 0, 4):
            for signs in (-1, 0, 2, 101, 50):
                with self.assertRaises(BadPlan):
                    best_together(TRUE, signs, deals)
        for signs in (-1, 0, 101):
            with self.assertRaises(BadContents):
                best_together(TRUE, signs, 2)
        for signs in (4, 100):
            with self.assertRaises(TooLarge):
                best_together(TRUE, signs, 1)

    def test_dicts_are_new(self):
        best_together(TRUE, 2, 2)[1].clear()
        self.assertEqual(len(best_together(TRUE, 2, 2)[1]), 4)
        guess_together(TRUE, (0, 1), (0, 1))[1].clear()
        self.assertEqual(len(guess_together(TRUE, (0, 1), (0, 1))[1]), 4)


class GuessTest(unittest.TestCase):
    def test_guess_together(self):
        for scheme in SCHEMES:
            for deals in (1, 2, 3):
                for row in all_rows(scheme, deals)[::2]:
                    draws = tuple((3 * question + place) % scheme.draws for place, question in enumerate(row))
                    guesses = [guess_filling(scheme, question, draw) for question, draw in zip(row, draws)]
                    fillings, replies = guess_together(scheme, row, draws)
                    self.assertEqual(fillings, tuple(contents for contents, _ in guesses))
                    self.assertEqual(replies, {
                        text_of(asked): tuple(guesses[place][1] if asked[place] == row[place] else None
                                              for place in range(deals))
                        for asked in all_rows(scheme, deals)
                    })
                    self.assertIsNone(check_together(scheme, (fillings, replies), deals))

    def test_a_guess_passes_its_row_alone(self):
        for scheme in (FALSE, TRUE, OR):
            for row in all_rows(scheme, 3):
                plan = guess_together(scheme, row, (0, 1, 1))
                self.assertEqual(passed_together(scheme, plan, 3), [row])
                self.assertIsNone(extract_from_together(scheme, plan, 3))

    def test_errors_in_their_order(self):
        for row, draws in (((), ()), ((0,) * 4, (0,) * 4), ((9,) * 4, (0,) * 4), ((0,), ()), ((0,), (0, 0)),
                           ((0, 1), (0,)), ((5, 5), (0,)), ((), (0,))):
            with self.assertRaises(BadPlan):
                guess_together(TRUE, row, draws)
        for row, draws in (((2,), (0,)), ((-1,), (9,)), ((0, 2), (0, 9)), ((15, 0), (0, 9))):
            with self.assertRaises(BadQuestion):
                guess_together(TRUE, row, draws)
        for row, draws in (((0,), (2,)), ((1,), (-1,)), ((0, 1, 2), (0, 5, 0))):
            with self.assertRaises(BadDraw):
                guess_together(TRUE, row, draws)
        with self.assertRaises(LeakyTable):
            guess_together(made(OPEN), (0, 5), (0, 0))


class ExtractTest(unittest.TestCase):
    def test_plan_of_a_knower(self):
        witnesses = [(0, 1), (1, 0), (1, 1)]
        for deals in (1, 2, 3):
            plan = knower_plan(OR, witnesses[:deals])
            self.assertEqual(extract_from_together(OR, plan, deals), witnesses[deals - 1])

    def test_two_least_rows(self):
        fillings, replies = knower_plan(OR, [(0, 1), (1, 0)])
        never = {**replies, "01": (None, None)}
        self.assertEqual(extract_from_together(OR, (fillings, never), 2), (0, 1))
        self.assertEqual(extract_from_together(OR, (fillings, {**replies, "00": (None, ()), "01": (None, None)}), 2),
                         (1, 0))
        self.assertEqual(extract_from_together(OR, (fillings, {**never, "10": (None, None)}), 2), (0, 1))
        alone = {key: replies[key] if key == "10" else (None, None) for key in replies}
        self.assertIsNone(extract_from_together(OR, (fillings, alone), 2))

    def test_words_come_from_the_two_rows(self):
        """A word that another row has for the same question does not matter."""
        fillings, replies = knower_plan(TRUE, [(1, 0), (0, 1)])
        replies["10"] = ((9,), ())
        self.assertEqual(extract_from_together(TRUE, (fillings, replies), 2), (0, 1))
        replies["01"] = ((), (8,))
        replies["10"] = ((), ())
        self.assertEqual(extract_from_together(TRUE, (fillings, replies), 2), (1, 0))

    def test_false_statement(self):
        for seed in range(40):
            plan = random_plan(random.Random(seed), FALSE, 2)
            rows = passed_together(FALSE, plan, 2)
            self.assertLess(len(rows), 2)
            self.assertIsNone(extract_from_together(FALSE, plan, 2))

    def test_other_numbers_of_questions(self):
        triangle = ColorScheme(colors(full(3), 3))
        plan = knower_plan(triangle, [(0, 1, 2)] * 2)
        self.assertEqual(len(passed_together(triangle, plan, 2)), 9)
        self.assertIsNone(extract_from_together(triangle, plan, 2))

    def test_nothing_is_read_off_a_table(self):
        table = made(COINS)
        self.assertIsNone(extract_from_together(table, (((0, 0),), {"0": ((0,),), "1": (None,)}), 1))
        with self.assertRaises(NothingExtracted):
            extract_from_together(table, (((0, 0),), {"0": ((0,),), "1": ((0,),)}), 1)


if __name__ == "__main__":
    unittest.main()
