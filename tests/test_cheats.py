"""Points 51 to 53: cheats."""

import inspect
import itertools
import unittest
from fractions import Fraction

from interface import InterfaceChecks
from provedunseen.cheats import best_against, best_filling, filling_for, fillings_of, guess_filling
from provedunseen.circuits import CircuitScheme
from provedunseen.colorings import ColorScheme
from provedunseen.distributions import Distribution
from provedunseen.errors import BadContents, BadDraw, BadQuestion, LeakyTable, TooLarge
from provedunseen.joins import BothScheme
from provedunseen.likenesses import AlikeScheme
from provedunseen.ratios import Ratio
from provedunseen.rings import RingScheme
from provedunseen.statements import alike, circuit, colors
from provedunseen.tables import TableScheme
from samples import ALIKES, CIRCUITS, EDGE, FALSE_RING, RINGS, full, path
from table_samples import COINS, MANY, OPEN, WORDS, leaks_of, made

ONLY = (((), ()),)
# Box 0 must hold 1 for question 0 and 2 for question 1; question 2 is never passed, question 3 always.
PICKY = TableScheme(3, 3, (
    (((0,), ((1,),)),), (((0,), ((2,),)), ((1,), ((2,),))), ONLY, (((), ((),)),),
), ((((0, 0, 0), (0, 0, 0, 0)),),))
WIDE = CircuitScheme(circuit(4, [("and", 0, 1), ("and", 2, 3), ("xor", 4, 5), ("not", 6), ("or", 7, 0)]))
# Each part has 256 words for question 1, so the join has more than 3000; with 1 sign it has one filling.
WORDY = BothScheme(WIDE, WIDE)
UNDECIDED = AlikeScheme(alike(EDGE, (2, ())))


def everything(boxes, signs):
    return list(itertools.product(range(signs), repeat=boxes))


class FillingsTest(unittest.TestCase, InterfaceChecks):
    def test_interface(self):
        self.check_functions("cheats", {
            "fillings_of": "(boxes, signs)", "best_filling": "(scheme, signs)",
            "best_against": "(scheme, signs, questions)", "filling_for": "(scheme, signs, *questions)",
            "guess_filling": "(scheme, question, draw)",
        })
        self.assertTrue(inspect.isgeneratorfunction(fillings_of))

    def test_all_in_ascending_order(self):
        for boxes in range(6):
            for signs in range(1, 5):
                self.assertEqual(list(fillings_of(boxes, signs)), everything(boxes, signs))

    def test_edges(self):
        for signs in (1, 2, 100):
            self.assertEqual(list(fillings_of(0, signs)), [()])
        self.assertEqual(list(fillings_of(150, 1)), [(0,) * 150])
        self.assertEqual(list(fillings_of(1, 100)), [(sign,) for sign in range(100)])
        self.assertEqual(len(list(fillings_of(2, 100))), 10000)

    def test_a_little_beyond_the_limits(self):
        self.assertEqual(list(fillings_of(2, 0)), [])
        self.assertEqual(list(fillings_of(1, -1)), [])
        self.assertEqual(list(fillings_of(0, 0)), [()])
        self.assertEqual(list(fillings_of(151, 1)), [(0,) * 151])
        self.assertEqual(len(list(fillings_of(1, 101))), 101)

    def test_first_ones_of_very_many(self):
        first = list(itertools.islice(fillings_of(150, 100), 102))
        self.assertEqual(first[0], (0,) * 150)
        self.assertEqual(first[99], (0,) * 149 + (99,))
        self.assertEqual(first[100], (0,) * 148 + (1, 0))
        self.assertEqual(first[101], (0,) * 148 + (1, 1))


class BestTest(unittest.TestCase):
    def tried(self):
        """Yield schemes and signs with at most 1000 fillings."""
        for data in MANY:
            for signs in (1, 2, 3, 5):
                yield made(data), signs
        for signs in (1, 3, 10):
            yield PICKY, signs
        for statement in ALIKES[:4]:
            yield AlikeScheme(statement), 2
        for statement in CIRCUITS[:5]:
            yield CircuitScheme(statement), 2
        yield RingScheme(RINGS[0]), 3
        yield RingScheme(RINGS[1]), 3
        for statement in (colors(full(3), 2), colors(full(4), 3), colors(path(3), 2)):
            yield ColorScheme(statement), 4

    def test_best_filling(self):
        for scheme, signs in self.tried():
            scored = [(len(scheme.passed(contents)), contents) for contents in everything(scheme.boxes, signs)]
            number = max(score for score, _ in scored)
            expected = (number, min(contents for score, contents in scored if score == number))
            self.assertEqual(best_filling(scheme, signs), expected)

    def test_best_against(self):
        for scheme, signs in self.tried():
            for weights in ((1, 1, 1, 1), (1, 5, 2, 3), (7, 1, 1, 0)):
                weighted = [(question, weight) for question, weight in enumerate(weights)
                            if weight and question < scheme.questions]
                questions = Distribution(weighted[::-1])
                ratio, contents = best_against(scheme, signs, questions)
                scored = [(sum(weight for question, weight in weighted if question in scheme.passed(each)), each)
                          for each in everything(scheme.boxes, signs)]
                greatest = max(score for score, _ in scored)
                expected = Fraction(greatest, sum(weight for _, weight in weighted))
                self.assertIsInstance(ratio, Ratio)
                self.assertEqual((ratio.part, ratio.whole), (expected.numerator, expected.denominator))
                self.assertEqual(contents, min(each for score, each in scored if score == greatest))

    def test_filling_for(self):
        for scheme, signs in self.tried():
            for size in (0, 1, 2, 3):
                for questions in itertools.islice(itertools.product(range(scheme.questions), repeat=size), 9):
                    good = [contents for contents in everything(scheme.boxes, signs)
                            if set(questions) <= set(scheme.passed(contents))]
                    self.assertEqual(filling_for(scheme, signs, *questions), min(good, default=None))

    def test_least_of_several(self):
        self.assertEqual(best_filling(PICKY, 3), (3, (1, 2, 0)))
        self.assertEqual(best_filling(PICKY, 2), (2, (1, 0, 0)))
        self.assertEqual(best_filling(PICKY, 1), (1, (0, 0, 0)))
        self.assertEqual(filling_for(PICKY, 3, 1), (0, 2, 0))
        self.assertEqual(filling_for(PICKY, 3, 1, 0), (1, 2, 0))
        self.assertEqual(filling_for(PICKY, 3), (0, 0, 0))
        self.assertIsNone(filling_for(PICKY, 3, 2))
        ratio, contents = best_against(PICKY, 3, Distribution([(1, 3), (2, 1)]))
        self.assertEqual((str(ratio), contents), ("3/4", (0, 2, 0)))
        ratio, contents = best_against(PICKY, 3, Distribution.even([2]))
        self.assertEqual((str(ratio), contents), ("0/1", (0, 0, 0)))

    def test_cheat_at_a_false_statement(self):
        number, contents = best_filling(UNDECIDED, 2)
        self.assertEqual(number, 1)
        self.assertEqual(len(UNDECIDED.passed(contents)), 1)
        self.assertIsNone(filling_for(UNDECIDED, 2, 0, 1))

    def test_questions_that_are_none(self):
        for signs in (-1, 0, 1, 101, 99):
            for question in (-1, 4, 100):
                with self.assertRaises(BadQuestion):
                    best_against(PICKY, signs, Distribution([(0, 1), (question, 2)]))
                for questions in ((question,), (0, question), (question, 2, 2)):
                    with self.assertRaises(BadQuestion):
                        filling_for(PICKY, signs, *questions)
        with self.assertRaises(BadQuestion):
            filling_for(WORDY, 1, 1, 2)

    def test_signs(self):
        even = Distribution.even([0, 1])
        for signs in (-5, -1, 0, 101, 200):
            for scheme in (PICKY, WORDY, RingScheme(FALSE_RING)):
                for call in (lambda: best_filling(scheme, signs), lambda: best_against(scheme, signs, even),
                             lambda: filling_for(scheme, signs, 0), lambda: filling_for(scheme, signs)):
                    with self.assertRaises(BadContents):
                        call()

    def test_number_of_contents(self):
        even = Distribution.even([0, 1])
        self.assertEqual(best_filling(PICKY, 10), (3, (1, 2, 0)))
        self.assertEqual(best_filling(TableScheme(1, 1, (ONLY,), ((((0,), (0,)),),)), 100), (0, (0,)))
        nine = TableScheme(9, 1, (ONLY, (((8,), ((0,),)),)), ((((0,) * 9, (0, 0)),),))
        self.assertEqual(best_filling(nine, 2), (1, (0,) * 9))
        for scheme, signs in ((PICKY, 11), (PICKY, 100), (nine, 3), (RingScheme(FALSE_RING), 2), (WORDY, 2)):
            for call in (lambda: best_filling(scheme, signs), lambda: best_against(scheme, signs, even),
                         lambda: filling_for(scheme, signs, 0), lambda: filling_for(scheme, signs)):
                with self.assertRaises(TooLarge):
                    call()

    def test_words_that_are_too_many(self):
        for call in (
            lambda: best_filling(WORDY, 1), lambda: best_against(WORDY, 1, Distribution.even([0, 1])),
            lambda: best_against(WORDY, 1, Distribution.even([1])), lambda: filling_for(WORDY, 1, 1),
            lambda: filling_for(WORDY, 1, 0, 1), lambda: filling_for(WORDY, 1, 1, 0),
        ):
            with self.assertRaises(TooLarge):
                call()
        blank = (0,) * WORDY.boxes
        self.assertEqual(filling_for(WORDY, 1), blank)
        self.assertIsNone(filling_for(WORDY, 1, 0))
        ratio, contents = best_against(WORDY, 1, Distribution.even([0]))
        self.assertEqual((str(ratio), contents), ("0/1", blank))

    def test_distribution_stays(self):
        questions = Distribution([(1, 3), (0, 1)])
        best_against(PICKY, 3, questions)
        self.assertEqual(questions.pairs, [(1, 3), (0, 1)])


class GuessTest(unittest.TestCase):
    def test_guess_filling(self):
        schemes = [made(data) for data in MANY if not leaks_of(data)] + [UNDECIDED, RingScheme(FALSE_RING)]
        schemes += [CircuitScheme(CIRCUITS[1]), ColorScheme(colors(full(4), 3)), WORDY]
        for scheme in schemes:
            for question in range(scheme.questions):
                for draw in range(min(scheme.draws, 30)):
                    contents, word = guess_filling(scheme, question, draw)
                    simulated, shown = scheme.simulate(question, draw)
                    boxes = scheme.boxes_for(question, word)
                    self.assertEqual((type(contents), len(contents), word), (tuple, scheme.boxes, simulated))
                    for box, content in enumerate(contents):
                        self.assertEqual(content, shown[boxes.index(box)] if box in boxes else -1)
                    if not isinstance(scheme, TableScheme):
                        self.assertIs(scheme.accepts(contents, question, word), True)

    def test_coins(self):
        self.assertEqual(guess_filling(made(COINS), 1, 1), ((-1, 1), (0,)))
        self.assertEqual(guess_filling(made(WORDS), 1, 2), ((-1, -1, -1), (2,)))
        self.assertEqual(guess_filling(made(WORDS), 1, 0), ((-1, 1, 1), (1,)))

    def test_errors(self):
        for scheme in (made(COINS), made(OPEN), UNDECIDED):
            for question in (-1, 3):
                for draw in (0, -1, 99):
                    with self.assertRaises(BadQuestion):
                        guess_filling(scheme, question, draw)
            for draw in (-1, 2, 99):
                with self.assertRaises(BadDraw):
                    guess_filling(scheme, 0, draw)
        with self.assertRaises(LeakyTable):
            guess_filling(made(OPEN), 0, 0)


if __name__ == "__main__":
    unittest.main()
