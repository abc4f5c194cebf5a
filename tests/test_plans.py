"""Points 54 to 58: plans for deals one behind another."""

import itertools
import random
import unittest
from fractions import Fraction

from interface import InterfaceChecks
from provedunseen.cheats import best_filling, guess_filling
from provedunseen.circuits import CircuitScheme
from provedunseen.colorings import ColorScheme
from provedunseen.errors import (
    BadContents, BadDraw, BadPlan, BadQuestion, BadRatio, LeakyTable, NothingExtracted, TooLarge,
)
from provedunseen.likenesses import AlikeScheme
from provedunseen.plans import (
    best_plan, check_plan, deals_needed, extract_from_plan, guess_plan, passed_rows, plan_chance, rest_plan, row_text,
)
from provedunseen.ratios import Ratio
from provedunseen.rings import RingScheme
from provedunseen.statements import alike, circuit, colors
from samples import CIRCUITS, EDGE, FALSE_RING, full
from table_samples import COINS, MANY, OPEN, WORDS, made

SIGNS = "0123456789abcde"
FALSE = AlikeScheme(alike(EDGE, (2, ())))
TRUE = AlikeScheme(alike(EDGE, EDGE))
OR = CircuitScheme(circuit(2, [("or", 0, 1)]))
WIDE = ColorScheme(colors(full(6), 4))


def all_rows(scheme, deals):
    return list(itertools.product(range(scheme.questions), repeat=deals))


def texts_before(scheme, deals):
    return ["".join(SIGNS[question] for question in row) for size in range(deals) for row in all_rows(scheme, size)]


def random_plan(chance, scheme, deals):
    """Some plan: contents and words that may be good, wrong, or None."""
    plan = {}
    for text in texts_before(scheme, deals):
        contents = tuple(chance.choice((-1, 0, 0, 1, 1, 2)) for _ in range(scheme.boxes))
        words = []
        for question in range(scheme.questions):
            words.append(chance.choice([None, (), (7,), (0,), *scheme.words(question)]))
        plan[text] = (contents, tuple(words))
    return plan


def good_plans(scheme, deals):
    """The plans whose contents come from a knower in some deals and from a guess in the others."""
    found = []
    for seed in range(12):
        chance = random.Random(seed)
        plan = random_plan(chance, scheme, deals)
        for text in plan:
            if chance.random() < 0.7:
                question = chance.randrange(scheme.questions)
                contents, word = guess_filling(scheme, question, chance.randrange(scheme.draws))
                words = [None] * scheme.questions
                words[question] = word
                plan[text] = (contents, tuple(words))
        found.append(plan)
    return found


def knower_plan(scheme, witness, deals):
    draw = scheme.draws - 1
    words = tuple(scheme.word(witness, draw, question) for question in range(scheme.questions))
    return {text: (scheme.fill(witness, draw), words) for text in texts_before(scheme, deals)}


def rows_passed(scheme, plan, deals):
    """The rows that a plan passes, in ascending order, found row by row."""
    found = []
    for row in all_rows(scheme, deals):
        good = True
        for place, question in enumerate(row):
            contents, words = plan["".join(SIGNS[each] for each in row[:place])]
            good = good and words[question] is not None and scheme.accepts(contents, question, words[question])
        if good:
            found.append(row)
    return found


def schemes():
    tables = [made(data) for data in MANY[:24] if not made(data).leak]
    return tables + [FALSE, TRUE, OR, RingScheme(FALSE_RING), CircuitScheme(CIRCUITS[1])]


class PlanTest(unittest.TestCase, InterfaceChecks):
    def test_interface(self):
        self.check_functions("plans", {
            "row_text": "(row)", "check_plan": "(scheme, plan, deals)", "passed_rows": "(scheme, plan, deals)",
            "plan_chance": "(scheme, plan, deals)", "rest_plan": "(scheme, plan, deals, question)",
            "best_plan": "(scheme, signs, deals)", "guess_plan": "(scheme, row, draws)",
            "extract_from_plan": "(scheme, plan, deals)", "deals_needed": "(ratio, limit, *, most=60)",
        })

    def test_row_text(self):
        self.assertEqual(row_text(()), "")
        self.assertEqual(row_text(tuple(range(15))), "0123456789abcde")
        self.assertEqual(row_text((14, 0, 10, 9)), "e0a9")

    def test_good_plans(self):
        for scheme in schemes():
            for deals in (1, 2, 3):
                plan = random_plan(random.Random(deals), scheme, deals)
                self.assertIsNone(check_plan(scheme, plan, deals))
        for deals in (1, 2, 3):
            plan = {text: ((99, -1, 0, 1, 2, 3), ((),) * 15) for text in texts_before(WIDE, deals)}
            self.assertIsNone(check_plan(WIDE, plan, deals))
            self.assertEqual(len(plan), sum(15 ** size for size in range(deals)))

    def broken_plans(self, scheme, deals):
        plan = knower_plan(scheme, (0, 1), deals)
        contents, words = plan[""]
        last = max(plan)
        for key in plan:
            yield {each: plan[each] for each in plan if each != key}
        for key in ("2", "00000", "x", " ", "0" * deals, "-1", last + "0", "00"[:deals]):
            if key not in plan:
                yield {**plan, key: plan[""]}
                yield {**{each: plan[each] for each in plan if each != last}, key: plan[""]}
        yield {}
        for wrong in (contents[:-1], contents + (0,), (), (-2,) + contents[1:], (100,) + contents[1:],
                      contents[:-1] + (10 ** 9,)):
            yield {**plan, last: (wrong, words)}
        for wrong in ((), words[:1], words + (None,), words + words):
            yield {**plan, last: (contents, wrong)}

    def test_broken_plans(self):
        for deals in (1, 2, 3):
            for plan in self.broken_plans(TRUE, deals):
                for call in (check_plan, passed_rows, plan_chance, extract_from_plan):
                    with self.assertRaises(BadPlan):
                        call(TRUE, plan, deals)
                for question in (0, 1, 5):
                    with self.assertRaises(BadPlan):
                        rest_plan(TRUE, plan, deals, question)

    def test_number_of_deals(self):
        plan = knower_plan(TRUE, (0, 1), 3)
        four = knower_plan(TRUE, (0, 1), 4)
        for deals in (-1, 0, 1, 2, 4, 5):
            for each in (plan, four, {}):
                for call in (check_plan, passed_rows, plan_chance, extract_from_plan):
                    with self.assertRaises(BadPlan):
                        call(TRUE, each, deals)
        self.assertIsNone(check_plan(TRUE, plan, 3))

    def test_contents_at_their_bounds(self):
        for content in (-1, 99):
            plan = {"": ((content,) * TRUE.boxes, (None, (5, -7, 10 ** 9)))}
            self.assertIsNone(check_plan(TRUE, plan, 1))
            self.assertEqual(passed_rows(TRUE, plan, 1), [])


class RowsTest(unittest.TestCase):
    def test_rows_and_chance(self):
        passing = 0
        for scheme in schemes():
            for deals in (1, 2, 3):
                for plan in [random_plan(random.Random(7), scheme, deals), *good_plans(scheme, deals)[:5]]:
                    copy = dict(plan)
                    expected = rows_passed(scheme, plan, deals)
                    passing += len(expected)
                    rows = passed_rows(scheme, plan, deals)
                    self.assertEqual(rows, expected)
                    ratio = plan_chance(scheme, plan, deals)
                    fraction = Fraction(len(expected), scheme.questions ** deals)
                    self.assertIsInstance(ratio, Ratio)
                    self.assertEqual((ratio.part, ratio.whole), (fraction.numerator, fraction.denominator))
                    rows.append("changed")
                    self.assertEqual(passed_rows(scheme, plan, deals), expected)
                    self.assertEqual(plan, copy)
        self.assertGreater(passing, 100)

    def test_plan_of_a_knower(self):
        for deals in (1, 2, 3):
            plan = knower_plan(OR, (1, 0), deals)
            self.assertEqual(passed_rows(OR, plan, deals), all_rows(OR, deals))
            self.assertEqual(str(plan_chance(OR, plan, deals)), "1/1")

    def test_rest_plan(self):
        for scheme in (TRUE, OR, made(WORDS), FALSE, made(OPEN)):
            for deals in (2, 3):
                plan = random_plan(random.Random(3), scheme, deals)
                copy = dict(plan)
                for question in range(scheme.questions):
                    rest = rest_plan(scheme, plan, deals, question)
                    self.assertEqual(rest, {text: plan[SIGNS[question] + text]
                                            for text in texts_before(scheme, deals - 1)})
                    self.assertIsNone(check_plan(scheme, rest, deals - 1))
                    rest.clear()
                    self.assertEqual(plan, copy)
                    self.assertEqual(len(rest_plan(scheme, plan, deals, question)),
                                     len(texts_before(scheme, deals - 1)))

    def test_rest_plan_of_many_questions(self):
        value = ((0,) * 6, ((),) * 15)
        plan = {text: (value[0], value[1][:14] + (tuple(map(ord, text)),)) for text in texts_before(WIDE, 3)}
        rest = rest_plan(WIDE, plan, 3, 12)
        self.assertEqual(rest["e"][1][14], (ord("c"), ord("e")))
        self.assertEqual(len(rest), 16)

    def test_errors_of_rest_plan(self):
        for deals in (2, 3):
            plan = knower_plan(TRUE, (0, 1), deals)
            for question in (-1, 2, 14, 15):
                with self.assertRaises(BadQuestion):
                    rest_plan(TRUE, plan, deals, question)
        for question in (-1, 0, 1, 2):
            with self.assertRaises(BadPlan):
                rest_plan(TRUE, knower_plan(TRUE, (0, 1), 1), 1, question)


class BestTest(unittest.TestCase):
    def test_best_plan(self):
        for scheme in schemes():
            if scheme.boxes > 9:
                continue
            for signs in (1, 2):
                number, contents = best_filling(scheme, signs)
                words = tuple(scheme.answer(contents, question) for question in range(scheme.questions))
                for deals in (1, 2, 3):
                    plan = best_plan(scheme, signs, deals)
                    self.assertEqual(plan, {text: (contents, words) for text in texts_before(scheme, deals)})
                    self.assertEqual(len(passed_rows(scheme, plan, deals)), number ** deals)

    def test_no_plan_passes_more(self):
        for data in (COINS, WORDS, OPEN):
            table = made(data)
            number, _ = best_filling(table, 2)
            for seed in range(30):
                chance = random.Random(seed)
                plan = {}
                for text in texts_before(table, 2):
                    contents = tuple(chance.randrange(2) for _ in range(table.boxes))
                    plan[text] = (contents, tuple(table.answer(contents, each) for each in range(table.questions)))
                self.assertLessEqual(len(passed_rows(table, plan, 2)), number ** 2)

    def test_errors_in_their_order(self):
        for deals in (-1, 0, 4, 5):
            for signs in (-1, 0, 2, 101, 50):
                with self.assertRaises(BadPlan):
                    best_plan(TRUE, signs, deals)
        for signs in (-1, 0, 101):
            with self.assertRaises(BadContents):
                best_plan(TRUE, signs, 1)
        for signs in (4, 100):
            with self.assertRaises(TooLarge):
                best_plan(TRUE, signs, 3)

    def test_dicts_are_new(self):
        best_plan(TRUE, 2, 2).clear()
        self.assertEqual(len(best_plan(TRUE, 2, 2)), 3)
        guess_plan(TRUE, (0, 1), (0, 1)).clear()
        self.assertEqual(len(guess_plan(TRUE, (0, 1), (0, 1))), 3)


class GuessTest(unittest.TestCase):
    def test_guess_plan(self):
        for scheme in schemes():
            for deals in (1, 2, 3):
                for row in all_rows(scheme, deals)[::2]:
                    draws = tuple((3 * question + place) % scheme.draws for place, question in enumerate(row))
                    plan = guess_plan(scheme, row, draws)
                    self.assertEqual(set(plan), set(texts_before(scheme, deals)))
                    for text, (contents, words) in plan.items():
                        place = len(text)
                        expected, word = guess_filling(scheme, row[place], draws[place])
                        self.assertEqual(contents, expected)
                        self.assertEqual(words, tuple(word if question == row[place] else None
                                                      for question in range(scheme.questions)))
                    self.assertEqual(passed_rows(scheme, plan, deals), rows_passed(scheme, plan, deals))

    def test_a_guess_passes_its_row_alone(self):
        for scheme in (FALSE, TRUE, OR):
            for row in all_rows(scheme, 3):
                self.assertEqual(passed_rows(scheme, guess_plan(scheme, row, (0, 1, 1)), 3), [row])

    def test_errors_in_their_order(self):
        for row, draws in (((), ()), ((0,) * 4, (0,) * 4), ((9,) * 4, (0,) * 4), ((0,), ()), ((0,), (0, 0)),
                           ((0, 1), (0,)), ((5, 5), (0,)), ((), (0,)), ((0, 1, 0), (0, 0, 0, 0))):
            with self.assertRaises(BadPlan):
                guess_plan(TRUE, row, draws)
        for row, draws in (((2,), (0,)), ((-1,), (9,)), ((0, 2), (0, 9)), ((0, 1, 15), (0, 0, 0)), ((15, 0), (0, 9))):
            with self.assertRaises(BadQuestion):
                guess_plan(TRUE, row, draws)
        for row, draws in (((0,), (2,)), ((1,), (-1,)), ((0, 1, 2), (0, 5, 0)), ((1, 0), (0, 2))):
            with self.assertRaises(BadDraw):
                guess_plan(TRUE, row, draws)
        with self.assertRaises(LeakyTable):
            guess_plan(made(OPEN), (0, 5), (0, 0))
        with self.assertRaises(BadDraw):
            guess_plan(made(OPEN), (0, 5), (2, 0))


class ExtractTest(unittest.TestCase):
    def test_plan_of_a_knower(self):
        for scheme, witness in ((TRUE, (1, 0)), (OR, (0, 1)), (OR, (1, 1))):
            for deals in (1, 2, 3):
                self.assertEqual(extract_from_plan(scheme, knower_plan(scheme, witness, deals), deals), witness)

    def test_two_least_rows(self):
        """The deal of the place at which the two least passed rows differ tells the witness."""
        known = {(0, 1): knower_plan(OR, (0, 1), 1)[""], (1, 0): knower_plan(OR, (1, 0), 1)[""],
                 (1, 1): knower_plan(OR, (1, 1), 1)[""]}
        nothing = ((0,) * OR.boxes, (None, None))
        guess = [guess_plan(OR, (question,), (3,))[""] for question in (0, 1)]
        plan = {"": known[(1, 0)], "0": known[(0, 1)], "1": known[(1, 1)]}
        self.assertEqual(extract_from_plan(OR, plan, 2), (0, 1))
        self.assertEqual(extract_from_plan(OR, {**plan, "0": nothing}, 2), (1, 1))
        self.assertEqual(extract_from_plan(OR, {**plan, "0": guess[0]}, 2), (1, 0))
        self.assertEqual(extract_from_plan(OR, {**plan, "0": guess[1], "1": guess[0]}, 2), (1, 0))
        self.assertEqual(extract_from_plan(OR, {"": guess[1], "0": known[(0, 1)], "1": known[(1, 1)]}, 2), (1, 1))
        self.assertIsNone(extract_from_plan(OR, {"": guess[1], "0": known[(0, 1)], "1": guess[1]}, 2))
        self.assertIsNone(extract_from_plan(OR, {"": guess[1], "0": known[(0, 1)], "1": nothing}, 2))

    def test_false_statement(self):
        for deals in (1, 2, 3):
            for plan in good_plans(FALSE, deals):
                self.assertLess(len(passed_rows(FALSE, plan, deals)), 2)
                self.assertIsNone(extract_from_plan(FALSE, plan, deals))

    def test_other_numbers_of_questions(self):
        triangle = ColorScheme(colors(full(3), 3))
        plan = knower_plan(triangle, (0, 1, 2), 2)
        self.assertEqual(len(passed_rows(triangle, plan, 2)), 9)
        self.assertIsNone(extract_from_plan(triangle, plan, 2))
        edge = ColorScheme(colors(EDGE, 2))
        self.assertIsNone(extract_from_plan(edge, knower_plan(edge, (0, 1), 1), 1))

    def test_nothing_is_read_off_a_table(self):
        table = made(COINS)
        self.assertIsNone(extract_from_plan(table, {"": ((0, 0), ((0,), None))}, 1))
        with self.assertRaises(NothingExtracted):
            extract_from_plan(table, {"": ((0, 0), ((0,), (0,)))}, 1)


class DealsNeededTest(unittest.TestCase):
    def test_least_number(self):
        ratios = [(1, 2), (2, 3), (0, 1), (1, 1), (3, 2), (5, 6), (-1, 2), (-2, 1)]
        limits = [(1, 2), (1, 4), (1, 5), (1, 1000), (2, 1), (1, 1), (0, 1), (-1, 3), (16, 81), (1, 10 ** 15)]
        for ratio, limit in itertools.product(ratios, limits):
            for most in (0, 1, 2, 7, 59, 60):
                good = [number for number in range(most + 1) if Fraction(*ratio) ** number <= Fraction(*limit)]
                found = deals_needed(Ratio(*ratio), Ratio(*limit), most=most)
                self.assertEqual(found, min(good, default=None))

    def test_edges(self):
        half = Ratio(1, 2)
        self.assertEqual(deals_needed(half, Ratio(1, 1024)), 10)
        self.assertEqual(deals_needed(half, Ratio(1, 1025)), 11)
        self.assertEqual(deals_needed(half, Ratio(1, 1024), most=10), 10)
        self.assertIsNone(deals_needed(half, Ratio(1, 1024), most=9))
        self.assertEqual(deals_needed(half, Ratio(1, 1), most=0), 0)
        self.assertEqual(deals_needed(half, Ratio(1, 2 ** 60)), 60)
        self.assertIsNone(deals_needed(half, Ratio(1, 2 ** 60 + 1)))
        self.assertIsNone(deals_needed(Ratio(1, 1), half))
        for most in (-1, 61, -60, 100):
            for limit in (half, Ratio(5, 1)):
                with self.assertRaises(BadRatio):
                    deals_needed(half, limit, most=most)


if __name__ == "__main__":
    unittest.main()
