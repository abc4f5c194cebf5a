"""Points 15 to 19: what every scheme does, with small classes derived from Scheme."""

import itertools
import unittest

from contract import CONTRACT
from interface import InterfaceChecks
from provedunseen.distributions import Distribution
from provedunseen.errors import (
    BadContents, BadDraw, BadQuestion, BadWitness, NothingExtracted, TooLarge,
)
from provedunseen.schemes import Scheme


class Small(Scheme):
    """Three boxes. Question 0 has the word () alone, question 1 the words (0,), (1,) and (2,).

    It checks nothing by itself: so the checks in the tests are those of Scheme.
    """

    def __init__(self, draws=4):
        self.questions = 2
        self.boxes = 3
        self.draws = draws

    def holds(self, witness):
        return witness in ((0,), (1,))

    def fill(self, witness, draw):
        return (draw % 2, draw // 2, witness[0])

    def word(self, witness, draw, question):
        return ((witness[0] + draw) % 2,) if question == 1 else ()

    def words(self, question):
        return [(0,), (1,), (2,)] if question == 1 else [()]

    def word_length(self, question, word):
        return question

    def boxes_for(self, question, word):
        if question == 0:
            return (0, 1) if word == () else None
        return {(0,): (0, 2), (1,): (1,), (2,): ()}.get(word)

    def judge(self, question, word, shown):
        if question == 0:
            return shown[0] == shown[1]
        return {(0,): shown == (7, 8), (1,): shown in ((7,), (1,)), (2,): False}[word]

    def simulate(self, question, draw):
        return ((0,) if question == 1 else (), (draw % 3, question))

    def read(self, contents, words):
        return (contents, words)


class Greedy(Small):
    """A scheme whose words for question 1 are too many to list."""

    def words(self, question):
        if question == 1:
            raise TooLarge("there are many words")
        return Small.words(self, question)


class BaseTest(unittest.TestCase, InterfaceChecks):
    def test_interface(self):
        self.check_methods("schemes", "Scheme", {
            "reply": "(self, witness, draw, question)", "accepts": "(self, contents, question, word)",
            "answer": "(self, contents, question)", "passed": "(self, contents)",
            "reply_distribution": "(self, witness, question)", "simulated_distribution": "(self, question)",
            "extract": "(self, contents, words)", **CONTRACT,
        })

    def test_numbers_of_a_derived_class(self):
        class Fixed(Scheme):
            questions, boxes, draws = 1, 2, 3

        for scheme in (Small(3), Fixed()):
            with self.assertRaises(BadContents):
                scheme.accepts((0,), 0, ())

    def test_contract_of_a_scheme_without_questions(self):
        scheme = Scheme()
        scheme.questions = scheme.boxes = scheme.draws = 0
        self.assertIs(scheme.holds(0), False)
        self.assertEqual(scheme.passed(()), ())
        with self.assertRaises(BadContents):
            scheme.passed((0,))
        with self.assertRaises(BadWitness):
            scheme.fill(0, 0)
        with self.assertRaises(NothingExtracted):
            scheme.read((), ())
        for call in (lambda: scheme.word(0, 0, 0), lambda: scheme.words(0), lambda: scheme.word_length(0, ()),
                     lambda: scheme.boxes_for(0, ()), lambda: scheme.judge(0, (), ()),
                     lambda: scheme.simulate(0, 0), lambda: scheme.find_draw(0, (), ()),
                     lambda: scheme.matching_draw(0, 0, 0), lambda: scheme.original_draw(0, 0, 0)):
            with self.assertRaises(BadQuestion):
                call()


class ReplyTest(unittest.TestCase):
    def test_reply(self):
        scheme = Small()
        self.assertEqual(scheme.reply((1,), 2, 0), ((), (0, 1)))
        self.assertEqual(scheme.reply((1,), 2, 1), ((1,), (1,)))
        self.assertEqual(scheme.reply((1,), 3, 1), ((0,), (1, 1)))
        self.assertEqual(scheme.reply((0,), 0, 1), ((0,), (0, 0)))

    def test_errors_in_their_order(self):
        scheme = Small()
        for question in (-1, 2):
            for witness, draw in (((0,), 0), ((9,), 99), (7, -1)):
                with self.assertRaises(BadQuestion):
                    scheme.reply(witness, draw, question)
        for witness in (0, (), (2,), ((0,),), (0, 0)):
            for draw in (0, -1, 4):
                with self.assertRaises(BadWitness):
                    scheme.reply(witness, draw, 1)
        for draw in (-1, 4):
            with self.assertRaises(BadDraw):
                scheme.reply((0,), draw, 0)


class AcceptsTest(unittest.TestCase):
    def test_accepts(self):
        scheme = Small()
        for contents in itertools.product((-1, 1, 7, 8), repeat=3):
            self.assertIs(scheme.accepts(contents, 0, ()), contents[0] == contents[1])
            self.assertIs(scheme.accepts(contents, 1, (0,)), (contents[0], contents[2]) == (7, 8))
            self.assertIs(scheme.accepts(contents, 1, (1,)), contents[1] in (1, 7))
            self.assertIs(scheme.accepts(contents, 1, (2,)), False)
            for question, word in ((0, (0,)), (1, ()), (1, (3,)), (1, (0, 0)), (0, (-5, 10 ** 9))):
                self.assertIs(scheme.accepts(contents, question, word), False)

    def test_errors_in_their_order(self):
        scheme = Small()
        for contents in ((), (1, 1), (1, 1, 1, 1)):
            for question in (-1, 2, 50):
                for call in (lambda: scheme.accepts(contents, question, ()), lambda: scheme.answer(contents, question)):
                    with self.assertRaises(BadQuestion):
                        call()
            for word in ((), (0,), (9, 9)):
                with self.assertRaises(BadContents):
                    scheme.accepts(contents, 0, word)
            for call in (lambda: scheme.answer(contents, 1), lambda: scheme.passed(contents)):
                with self.assertRaises(BadContents):
                    call()

    def test_answer(self):
        scheme = Small()
        self.assertEqual(scheme.answer((4, 4, 0), 0), ())
        self.assertIsNone(scheme.answer((4, 5, 0), 0))
        self.assertEqual(scheme.answer((7, 1, 8), 1), (0,))
        self.assertEqual(scheme.answer((6, 1, 8), 1), (1,))
        self.assertIsNone(scheme.answer((7, 2, 7), 1))

    def test_passed(self):
        scheme = Small()
        for contents, questions in (((7, 7, 8), (0, 1)), ((5, 5, 5), (0,)), ((2, 1, 2), (1,)), ((0, 3, 0), ())):
            self.assertEqual(scheme.passed(contents), questions)

    def test_words_that_are_too_many(self):
        scheme = Greedy()
        self.assertEqual(scheme.answer((1, 1, 1), 0), ())
        self.assertIs(scheme.accepts((1, 1, 1), 1, (1,)), True)
        for contents in ((1, 1), (1, 1, 1, 1)):
            with self.assertRaises(BadContents):
                scheme.answer(contents, 1)
            with self.assertRaises(BadContents):
                scheme.passed(contents)
        with self.assertRaises(TooLarge):
            scheme.answer((1, 1, 1), 1)
        with self.assertRaises(TooLarge):
            scheme.passed((1, 1, 1))
        with self.assertRaises(BadQuestion):
            scheme.answer((1,), 2)


class DistributionsTest(unittest.TestCase):
    def test_replies(self):
        made = Small(3).reply_distribution((0,), 0)
        self.assertEqual(made.pairs, [(((), (0, 0)), 1), (((), (1, 0)), 1), (((), (0, 1)), 1)])
        made = Small().reply_distribution((1,), 1)
        replies = [Small().reply((1,), draw, 1) for draw in range(4)]
        self.assertTrue(made == Distribution.even(replies))
        self.assertEqual(made.pairs, Distribution.even(replies).pairs)

    def test_simulated(self):
        made = Small().simulated_distribution(1)
        self.assertEqual(made.pairs, [(((0,), (0, 1)), 2), (((0,), (1, 1)), 1), (((0,), (2, 1)), 1)])
        self.assertEqual(Small(6).simulated_distribution(0).total, 3)

    def test_errors_in_their_order(self):
        for draws in (4, 3001):
            scheme = Small(draws)
            for question in (-1, 2):
                with self.assertRaises(BadQuestion):
                    scheme.reply_distribution((9,), question)
                with self.assertRaises(BadQuestion):
                    scheme.simulated_distribution(question)
            with self.assertRaises(BadWitness):
                scheme.reply_distribution((9,), 0)

    def test_number_of_draws(self):
        self.assertEqual(Small(3000).reply_distribution((0,), 0).total, 3000)
        self.assertEqual(Small(3000).simulated_distribution(1).total, 3)
        for draws in (3001, 10 ** 30):
            with self.assertRaises(TooLarge):
                Small(draws).reply_distribution((0,), 0)
            with self.assertRaises(TooLarge):
                Small(draws).simulated_distribution(0)


class ExtractTest(unittest.TestCase):
    def test_extract(self):
        scheme = Small()
        self.assertEqual(scheme.extract((7, 7, 8), ((), (0,))), ((7, 7, 8), ((), (0,))))
        self.assertEqual(scheme.extract((7, 7, 8), ((), (1,))), ((7, 7, 8), ((), (1,))))

    def test_number_of_contents(self):
        for contents in ((), (7, 7), (7, 7, 8, 8)):
            for words in ((), ((), (0,)), ((), (0,), ()), ((5,), (5,))):
                with self.assertRaises(BadContents):
                    Small().extract(contents, words)

    def test_nothing_extracted(self):
        for words in ((), ((),), ((), (0,), ()), ((0,), (0,)), ((), ()), ((), (2,)), ((), (3,)), ((0,), ())):
            with self.assertRaises(NothingExtracted):
                Small().extract((7, 7, 8), words)
        for contents in ((7, 6, 8), (7, 7, 9), (5, 5, 5)):
            with self.assertRaises(NothingExtracted):
                Small().extract(contents, ((), (0,)))


if __name__ == "__main__":
    unittest.main()
