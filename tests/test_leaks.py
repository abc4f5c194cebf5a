"""Points 43 to 46, and `first_failure` of point 42: what tables tell."""

import inspect
import itertools
import unittest
from collections import Counter
from fractions import Fraction

from interface import InterfaceChecks
from provedunseen.errors import BadQuestion, BadWitness, LeakyTable
from provedunseen.leaks import best_guess, count_reply, differences, exchange, first_failure, is_exchange
from provedunseen.ratios import Ratio
from table_samples import ALONE, COINS, MANY, OPEN, WORDS, full_table, leaks_of, made, replies_of, reply_of

BAD_WITNESSES = (-1, 2, 7)


def numbers(data):
    return range(len(data[3])), range(len(data[3][0])), range(len(data[2]))


class FailureTest(unittest.TestCase, InterfaceChecks):
    def test_interface(self):
        self.check_functions("leaks", {
            "first_failure": "(table)", "count_reply": "(table, witness, question, reply)", "differences": "(table)",
            "best_guess": "(table, first, second, question)", "exchange": "(table, witness, question)",
            "is_exchange": "(table, witness, question, row)",
        })

    def test_first_failure(self):
        found = []
        for data in MANY:
            failures = []
            for witness, draw, question in itertools.product(*numbers(data)):
                (choice,), shown = reply_of(data, witness, draw, question)
                if shown not in data[2][question][choice][1]:
                    failures.append((witness, draw, question))
            found.append(failures)
            self.assertEqual(first_failure(made(data)), min(failures, default=None))
        self.assertTrue(any(failures and failures[0] > (0, 0, 0) for failures in found))
        for data in (COINS, OPEN, WORDS, ALONE):
            self.assertIsNone(first_failure(made(data)))

    def test_least_failure(self):
        boxes, signs, rules, fillings = COINS
        rules = (rules[0], (((1,), ((0,),)),))
        self.assertEqual(first_failure(made((boxes, signs, rules, fillings))), (0, 1, 1))
        self.assertEqual(first_failure(made((boxes, signs, rules, (fillings[1], fillings[0])))), (0, 0, 1))
        self.assertEqual(first_failure(made((boxes, signs, rules, (fillings[0][:1], fillings[1][:1])))), (1, 0, 1))


class CountTest(unittest.TestCase):
    def test_counts(self):
        for data in MANY:
            table = made(data)
            witnesses, _, questions = numbers(data)
            for witness, question in itertools.product(witnesses, questions):
                counts = Counter(replies_of(data, witness, question))
                replies = [reply for other in witnesses for reply in replies_of(data, other, question)]
                for reply in replies:
                    self.assertEqual(count_reply(table, witness, question, reply), counts[reply])
                for reply in (((), ()), ((99,), ()), ((0,), (3, 3, 3, 3)), ((0, 0), (0,)), ((-1,), (-1,))):
                    self.assertEqual(count_reply(table, witness, question, reply), 0)

    def test_errors_in_their_order(self):
        table = made(OPEN)
        for question in (-1, 3, 9):
            for witness in (0, *BAD_WITNESSES):
                self.check_calls(BadQuestion, table, witness, question)
        for question in (0, 2):
            for witness in BAD_WITNESSES:
                self.check_calls(BadWitness, table, witness, question)

    def check_calls(self, error, table, witness, question):
        for call in (
            lambda: count_reply(table, witness, question, ((0,), (0,))),
            lambda: best_guess(table, witness, 0, question), lambda: best_guess(table, 0, witness, question),
            lambda: exchange(table, witness, question), lambda: is_exchange(table, witness, question, (0, 1)),
        ):
            with self.assertRaises(error):
                call()


class DifferencesTest(unittest.TestCase):
    def test_generator(self):
        self.assertTrue(inspect.isgeneratorfunction(differences))

    def test_all_tuples_in_ascending_order(self):
        for data in MANY:
            table = made(data)
            self.assertEqual(list(differences(table)), leaks_of(data))
            self.assertEqual(table.leak, next(iter(leaks_of(data)), None))

    def test_open_table(self):
        self.assertEqual(list(differences(made(OPEN))), [
            (2, 0, 1, ((0,), (0, 0))), (2, 0, 1, ((0,), (0, 1))), (2, 0, 1, ((0,), (1, 0))), (2, 0, 1, ((0,), (1, 1))),
        ])

    def test_table_at_the_bounds(self):
        self.assertEqual(list(differences(made(full_table()))), [])

    def test_no_leak_means_equal_distributions(self):
        for data in MANY:
            table = made(data)
            witnesses, _, questions = numbers(data)
            equal = all(
                table.reply_distribution(first, question) == table.reply_distribution(second, question)
                for first, second, question in itertools.product(witnesses, witnesses, questions)
            )
            self.assertIs(table.leak is None, equal)


class GuessTest(unittest.TestCase):
    def test_best_guess(self):
        for data in MANY:
            table = made(data)
            witnesses, draws, questions = numbers(data)
            for first, second, question in itertools.product(witnesses, witnesses, questions):
                some, others = (Counter(replies_of(data, each, question)) for each in (first, second))
                expected = Fraction(sum((some | others).values()), 2 * len(draws))
                guess = best_guess(table, first, second, question)
                self.assertIsInstance(guess, Ratio)
                self.assertEqual((guess.part, guess.whole), (expected.numerator, expected.denominator))
                if first == second:
                    self.assertEqual(str(guess), "1/2")

    def test_open_table(self):
        table = made(OPEN)
        self.assertEqual([str(best_guess(table, 0, 1, question)) for question in range(3)], ["1/2", "1/2", "1/1"])


class ExchangeTest(unittest.TestCase):
    def test_exchange(self):
        for data in MANY:
            table = made(data)
            witnesses, draws, questions = numbers(data)
            for witness, question in itertools.product(witnesses, questions):
                own, shared = replies_of(data, witness, question), replies_of(data, 0, question)
                if Counter(own) != Counter(shared):
                    with self.assertRaises(LeakyTable):
                        exchange(table, witness, question)
                    continue
                first = sorted(draws, key=lambda draw: (own[draw], draw))
                second = sorted(draws, key=lambda draw: (shared[draw], draw))
                expected = dict(zip(first, second))
                row = exchange(table, witness, question)
                self.assertEqual(row, tuple(expected[draw] for draw in draws))
                self.assertIs(is_exchange(table, witness, question, row), True)
                self.assertEqual(exchange(table, 0, question), tuple(draws))

    def test_leaking_question_alone(self):
        table = made(OPEN)
        self.assertEqual(exchange(table, 1, 0), (0, 1))
        self.assertEqual(exchange(table, 1, 1), (1, 0))
        self.assertEqual(exchange(table, 0, 2), (0, 1))
        with self.assertRaises(LeakyTable):
            exchange(table, 1, 2)

    def test_what_is_an_exchange(self):
        for data in MANY[:30]:
            table = made(data)
            witnesses, draws, questions = numbers(data)
            if len(draws) > 4:
                continue
            for witness, question in itertools.product(witnesses, questions):
                own, shared = replies_of(data, witness, question), replies_of(data, 0, question)
                for row in itertools.product(range(-1, len(draws) + 1), repeat=len(draws)):
                    good = sorted(row) == list(draws) and all(own[draw] == shared[row[draw]] for draw in draws)
                    self.assertIs(is_exchange(table, witness, question, row), good)

    def test_what_is_none(self):
        table = made(WORDS)
        good = exchange(table, 1, 1)
        self.assertEqual(good, (3, 0, 2, 1))
        self.assertIs(is_exchange(table, 1, 1, (3, 1, 2, 0)), True)
        for row in ((), good[:-1], good + (0,), good + (4,), (3, 0, 2, 0), (3, 0, 2, 4), (3, -1, 2, 1), (0, 3, 2, 1),
                    good + good, (3, 0, 2, 10 ** 9)):
            self.assertIs(is_exchange(table, 1, 1, row), False)


if __name__ == "__main__":
    unittest.main()
