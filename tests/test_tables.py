"""Points 41, 42 and 47: tables, with points 15 to 19 for them."""

import itertools
import unittest

from contract import CONTRACT, ContractChecks
from interface import InterfaceChecks
from provedunseen.distributions import Distribution
from provedunseen.errors import (
    BadContents, BadDraw, BadQuestion, BadTable, BadWitness, LeakyTable, NothingExtracted,
)
from provedunseen.schemes import Scheme
from provedunseen.tables import TableScheme
from table_samples import ALONE, BIT, COINS, MANY, OPEN, WORDS, full_table, leaks_of, made, replies_of, reply_of


def broken_tables():
    """Yield (what is broken, data) for each rule of point 41, broken once."""
    boxes, signs, rules, fillings = COINS
    yield "no box", (0, 1, ((((), ()),),), ((((), (0,)),),))
    for number in (-1, 0, 10, 11):
        yield f"boxes {number}", (number, signs, rules, fillings)
    for number in (-1, 0, 5, 6):
        yield f"signs {number}", (boxes, number, rules, fillings)
    yield "signs that are too few", (boxes, 1, rules, fillings)
    yield "no question", (2, 2, (), (((((0, 0), ()),)),))
    yield "7 questions", (2, 2, rules[:1] * 7, ((((0, 0), (0,) * 7),),))
    yield "no rule", (2, 2, (rules[0], ()), fillings)
    yield "13 rules", (2, 2, (rules[0], rules[1] * 13), fillings)
    for rule in (
        ((0, 0), ()), ((1, 0), ()), ((-1,), ()), ((2,), ()), ((0, 2), ()), ((0,), ((),)), ((0,), ((0, 1),)),
        ((0,), ((1,), (0,))), ((0,), ((0,), (0,))), ((0,), ((-1,),)), ((0,), ((2,),)), ((), ((0,),)), ((), ((), ())),
        ((0, 1), ((0, 0), (0,))), ((0, 1), ((0, 1), (0, 0))), ((0,), ((0,), (1,), (2,))),
        ((0,),), ((0,), ((0,),), ()), (),
    ):
        yield f"rule {rule}", (2, 2, (rules[0], (rules[1][0], rule)), fillings)
        yield f"rule {rule} in front", (2, 2, ((rule, rules[0][0]), rules[1]), fillings)
    yield "no witness", (2, 2, rules, ())
    yield "7 witnesses", (2, 2, rules, fillings[:1] * 7)
    yield "no draw", (2, 2, rules, ((), ()))
    yield "25 draws", (2, 2, rules, (fillings[0][:1] * 25,) * 2)
    yield "fewer draws", (2, 2, rules, (fillings[0], fillings[1][:1]))
    yield "more draws", (2, 2, rules, (fillings[0], fillings[1] * 2))
    for filling in (
        ((0,), (0, 0)), ((), (0, 0)), ((0, 0, 0), (0, 0)), ((0, 2), (0, 0)), ((-1, 0), (0, 0)), ((0, 0), (0,)),
        ((0, 0), ()), ((0, 0), (0, 0, 0)), ((0, 0), (0, 1)), ((0, 0), (1, 0)), ((0, 0), (-1, 0)),
        ((0, 0),), ((0, 0), (0, 0), ()), (),
    ):
        yield f"filling {filling}", (2, 2, rules, (fillings[0], (fillings[1][0], filling)))
        yield f"filling {filling} in front", (2, 2, rules, ((filling, fillings[0][0]), fillings[1]))


class DataTest(unittest.TestCase, InterfaceChecks):
    def test_interface(self):
        self.check_methods("tables", "TableScheme", {"__init__": "(self, boxes, signs, rules, fillings)", **CONTRACT})
        self.assertTrue(issubclass(TableScheme, Scheme))

    def test_attributes(self):
        for data in MANY + [full_table()]:
            table = made(data)
            self.assertEqual((table.boxes, table.signs, table.rules, table.fillings), data)
            self.assertEqual((table.questions, table.draws), (len(data[2]), len(data[3][0])))
            leaks = leaks_of(data)
            self.assertEqual(table.leak, leaks[0] if leaks else None)

    def test_bounds(self):
        table = made(full_table())
        self.assertEqual((table.boxes, table.signs, table.questions, table.draws), (9, 4, 6, 24))
        self.assertEqual((len(table.words(5)), len(table.fillings)), (12, 6))
        self.assertEqual((made(ALONE).boxes, made(ALONE).questions, made(ALONE).draws), (1, 1, 1))

    def test_each_rule_broken(self):
        for name, data in broken_tables():
            with self.subTest(name):
                with self.assertRaises(BadTable):
                    TableScheme(*data)

    def test_more_than_the_bounds(self):
        boxes, signs, rules, fillings = full_table()
        wide = tuple(tuple((contents + (0,), choices) for contents, choices in row) for row in fillings)
        more = tuple(tuple((contents, choices + (0,)) for contents, choices in row) for row in fillings)
        for data in (
            (10, signs, rules, wide), (boxes, 5, rules, fillings), (boxes, 3, rules, fillings),
            (boxes, signs, rules + rules[:1], more), (boxes, signs, rules[:5] + (rules[5] + rules[5][:1],), fillings),
            (boxes, signs, rules, fillings + fillings[:1]), (boxes, signs, rules, tuple(row * 2 for row in fillings)),
        ):
            with self.assertRaises(BadTable):
                TableScheme(*data)

    def test_empty_tuples(self):
        table = TableScheme(1, 1, ((((), ()), ((0,), ())),), ((((0,), (1,)),),))
        self.assertIs(table.judge(0, (0,), ()), False)
        self.assertEqual(table.reply(0, 0, 0), ((1,), (0,)))


class MethodsTest(unittest.TestCase, ContractChecks):
    def test_holds(self):
        for data in (COINS, ALONE, WORDS):
            self.check_values(made(data), lambda value: value in range(len(data[3])))

    def test_knower(self):
        for data in MANY:
            table = made(data)
            for witness, row in enumerate(data[3]):
                for draw, (contents, choices) in enumerate(row):
                    self.assertEqual(table.fill(witness, draw), contents)
                    for question, choice in enumerate(choices):
                        self.assertEqual(table.word(witness, draw, question), (choice,))
                        self.assertEqual(table.reply(witness, draw, question), reply_of(data, witness, draw, question))

    def test_rules(self):
        for data in MANY:
            table = made(data)
            for question, entry in enumerate(data[2]):
                self.assertEqual(table.words(question), [(number,) for number in range(len(entry))])
                for number, (revealed, accepted) in enumerate(entry):
                    self.assertEqual(table.boxes_for(question, (number,)), revealed)
                    for size in range(4):
                        for shown in itertools.product(range(-1, 4), repeat=size):
                            self.assertIs(table.judge(question, (number,), shown), shown in accepted)

    def test_what_is_no_word(self):
        for data in (COINS, WORDS, OPEN):
            table = made(data)
            for question, entry in enumerate(data[2]):
                for word in ((), (-1,), (len(entry),), (0, 0), (0, 5, 5), (10 ** 20,)):
                    self.assertIsNone(table.boxes_for(question, word))
                    for shown in ((), (0,), (0, 0), (0, 1)):
                        self.assertIs(table.judge(question, word, shown), False)
                        self.assertIsNone(table.find_draw(question, word, shown))

    def test_word_length(self):
        for question in (0, 1):
            self.assertIsNone(made(WORDS).word_length(question, ()))
            for word in ((0,), (7,), (-3,), (2, 1), (1, 2, 3, 4)):
                self.assertEqual(made(WORDS).word_length(question, word), 1)

    def test_contents_may_be_any_integers(self):
        table = made(WORDS)
        for contents in itertools.product((-1, 0, 1, 2, 3, 99, 10 ** 12), repeat=3):
            for question, entry in enumerate(WORDS[2]):
                good = []
                for number, (revealed, accepted) in enumerate(entry):
                    passed = tuple(contents[box] for box in revealed) in accepted
                    self.assertIs(table.accepts(contents, question, (number,)), passed)
                    if passed:
                        good.append((number,))
                self.assertEqual(table.answer(contents, question), good[0] if good else None)
        self.assertEqual(table.passed((0, 77, 1)), (0, 1))
        self.assertEqual(table.passed((1, 0, 0)), (1,))

    def test_find_draw(self):
        for data in MANY:
            table = made(data)
            for question in range(len(data[2])):
                own = replies_of(data, 0, question)
                others = [reply for witness in range(len(data[3])) for reply in replies_of(data, witness, question)]
                for word, shown in others + [((0,), (9,)), ((5,), ())]:
                    expected = own.index((word, shown)) if (word, shown) in own else None
                    self.assertEqual(table.find_draw(question, word, shown), expected)

    def test_errors(self):
        for data in [COINS, WORDS, ALONE] + [data for data in MANY if not leaks_of(data)][:6]:
            self.check_errors(made(data), len(data[3]) - 1)

    def test_lists_are_new(self):
        table = made(WORDS)
        table.words(1).append((9,))
        self.assertEqual(table.words(1), [(0,), (1,), (2,)])


class LeakTest(unittest.TestCase, ContractChecks):
    def test_without_a_leak(self):
        tables = [data for data in MANY if not leaks_of(data)]
        self.assertGreater(len(tables), 20)
        for data in tables:
            table = made(data)
            for question in range(table.questions):
                own = replies_of(data, 0, question)
                for draw in range(table.draws):
                    self.assertEqual(table.simulate(question, draw), own[draw])
                for witness in range(len(data[3])):
                    self.check_matching(table, witness)
                    for draw in range(table.draws):
                        matching = table.matching_draw(witness, question, draw)
                        self.assertEqual(table.original_draw(witness, question, matching), draw)
                        self.assertEqual(own[matching], reply_of(data, witness, draw, question))

    def test_least_matching_of_equal_replies(self):
        table = made(WORDS)
        self.assertEqual([table.matching_draw(1, 1, draw) for draw in range(4)], [3, 0, 2, 1])
        self.assertEqual([table.original_draw(1, 1, draw) for draw in range(4)], [1, 3, 2, 0])
        self.assertEqual([table.matching_draw(1, 0, draw) for draw in range(4)], [2, 0, 3, 1])

    def test_with_a_leak(self):
        tables = [data for data in MANY if leaks_of(data)]
        self.assertGreater(len(tables), 10)
        for data in tables:
            table = made(data)
            for question in range(table.questions):
                for call in (
                    lambda: table.simulate(question, 0), lambda: table.matching_draw(0, question, 0),
                    lambda: table.original_draw(1, question, 0), lambda: table.simulated_distribution(question),
                ):
                    with self.assertRaises(LeakyTable):
                        call()
                replies = Distribution.even(replies_of(data, 1, question))
                self.assertTrue(table.reply_distribution(1, question) == replies)
                word, shown = reply_of(data, 0, 0, question)
                self.assertEqual(table.find_draw(question, word, shown), 0)

    def test_leak_comes_behind_the_other_errors(self):
        table = made(OPEN)
        for question in (-1, 3):
            for call in (
                lambda: table.simulate(question, 9), lambda: table.matching_draw(5, question, 9),
                lambda: table.original_draw(5, question, 9), lambda: table.simulated_distribution(question),
            ):
                with self.assertRaises(BadQuestion):
                    call()
        for witness in (2, -1, (0,)):
            for call in (lambda: table.matching_draw(witness, 0, 9), lambda: table.original_draw(witness, 0, 0)):
                with self.assertRaises(BadWitness):
                    call()
        for draw in (-1, 2):
            for call in (
                lambda: table.simulate(0, draw), lambda: table.matching_draw(0, 0, draw),
                lambda: table.original_draw(1, 2, draw),
            ):
                with self.assertRaises(BadDraw):
                    call()

    def test_one_witness_does_not_leak(self):
        for data in MANY:
            table = TableScheme(data[0], data[1], data[2], data[3][:1])
            self.assertIsNone(table.leak)
            self.assertEqual(table.matching_draw(0, 0, table.draws - 1), table.draws - 1)

    def test_nothing_is_read(self):
        for data in (COINS, OPEN, WORDS):
            table = made(data)
            contents, choices = data[3][0][0]
            words = tuple((choice,) for choice in choices)
            for some, others in ((contents, words), ((), ()), (contents, ()), ((), words)):
                with self.assertRaises(NothingExtracted):
                    table.read(some, others)
            for others in (words, (), words + words, ((9,),) * len(words)):
                with self.assertRaises(NothingExtracted):
                    table.extract(contents, others)
                with self.assertRaises(BadContents):
                    table.extract(contents + (0,), others)
        self.assertEqual(made(COINS).passed((0, 1)), (0, 1))
        self.assertEqual(made(COINS).boxes_for(1, (0,)), (1,))
        self.assertEqual(COINS[2][0], (((0,), BIT),))


if __name__ == "__main__":
    unittest.main()
