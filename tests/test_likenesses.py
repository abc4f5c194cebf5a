"""Points 67 to 72: the scheme for an alike statement, with point 20 for it."""

import itertools
import unittest
from math import factorial

from contract import CONTRACT, ContractChecks
from interface import InterfaceChecks
from provedunseen.errors import BadContents, BadStatement
from provedunseen.graphs import edge_table, make_graph, relabel
from provedunseen.likenesses import AlikeScheme
from provedunseen.meaning import holds
from provedunseen.perms import inverse, permutation
from provedunseen.schemes import Scheme
from provedunseen.statements import alike
from samples import ALIKES, CIRCUITS, COLORS, EDGE, HOUSE, JOINS, RINGS, all_witnesses, path

ONE_EDGE = alike(make_graph(3, [(0, 1)]), make_graph(3, [(1, 2)]))
FIVE = alike(HOUSE, relabel(HOUSE, (2, 0, 4, 1, 3)))
ALL = ALIKES + [ONE_EDGE, FIVE, alike(path(3), make_graph(3, [(0, 1)]))]


class AlikeTest(unittest.TestCase, InterfaceChecks, ContractChecks):
    def test_interface(self):
        self.check_methods("likenesses", "AlikeScheme", {
            "__init__": "(self, statement)", **CONTRACT, "mirrored": "(self, contents)", "__invert__": "(self)",
        })
        self.assertTrue(issubclass(AlikeScheme, Scheme))
        self.assertEqual((AlikeScheme.SHOW_FIRST, AlikeScheme.SHOW_SECOND), (0, 1))

    def test_numbers(self):
        for statement in ALL:
            scheme = AlikeScheme(statement)
            nodes = statement[1][0]
            self.assertEqual(scheme.statement, statement)
            self.assertEqual((scheme.questions, scheme.draws), (2, factorial(nodes)))
            self.assertEqual(scheme.boxes, nodes * (nodes - 1) // 2 + 2 * nodes)
        self.assertEqual({statement[1][0] for statement in ALL}, {1, 2, 3, 4, 5, 6})

    def test_other_statements(self):
        for statement in (RINGS[0], CIRCUITS[0], COLORS[3], JOINS[0], JOINS[5]):
            with self.assertRaises(BadStatement):
                AlikeScheme(statement)

    def test_witnesses(self):
        for statement in ALL:
            scheme = AlikeScheme(statement)
            self.check_values(scheme, lambda value: holds(statement, value))
            found = [row for row in itertools.permutations(range(statement[1][0])) if scheme.holds(row)]
            self.assertEqual(found, all_witnesses(statement))

    def test_promises(self):
        for statement in ALL:
            self.check_scheme(AlikeScheme(statement), all_witnesses(statement))

    def test_errors(self):
        for statement in (ALIKES[0], ONE_EDGE, FIVE):
            self.check_errors(AlikeScheme(statement), all_witnesses(statement)[0])

    def test_fill_and_simulate(self):
        for statement in ALL:
            scheme = AlikeScheme(statement)
            _, first, second = statement
            for draw, row in list(enumerate(itertools.permutations(range(first[0]))))[:60]:
                self.assertEqual(scheme.simulate(0, draw), ((), edge_table(relabel(first, row)) + row))
                self.assertEqual(scheme.simulate(1, draw), ((), edge_table(relabel(second, row)) + row))
                for witness in all_witnesses(statement)[:4]:
                    other = tuple(row[witness.index(node)] for node in range(first[0]))
                    table = edge_table(relabel(first, row))
                    self.assertEqual(scheme.fill(witness, draw), table + row + other)
                    self.assertEqual(edge_table(relabel(second, other)), table)
                    self.assertEqual(scheme.reply(witness, draw, 0), ((), table + row))
                    self.assertEqual(scheme.reply(witness, draw, 1), ((), table + other))

    def test_words_and_boxes(self):
        scheme = AlikeScheme(ONE_EDGE)
        for question in (0, 1):
            self.assertEqual(scheme.words(question), [()])
            for word in ((), (0,), (3, 2, 1), (-1,)):
                self.assertEqual(scheme.word_length(question, word), 0)
            for word in ((0,), (-1,), (0, 1, 2)):
                self.assertIsNone(scheme.boxes_for(question, word))
                self.assertIs(scheme.judge(question, word, scheme.simulate(question, 0)[1]), False)
        self.assertEqual(scheme.boxes_for(0, ()), (0, 1, 2, 3, 4, 5))
        self.assertEqual(scheme.boxes_for(1, ()), (0, 1, 2, 6, 7, 8))
        point = AlikeScheme(ALIKES[0])
        self.assertEqual((point.boxes_for(0, ()), point.boxes_for(1, ())), ((0,), (1,)))

    def test_judge(self):
        scheme = AlikeScheme(ONE_EDGE)
        for question in (0, 1):
            good = [scheme.simulate(question, draw)[1] for draw in range(6)]
            for table in itertools.product((0, 1), repeat=3):
                for row in itertools.product((-1, 0, 1, 2), repeat=3):
                    self.assertIs(scheme.judge(question, (), table + row), table + row in good)
            for shown in ((), good[0][:-1], good[0] + (0,), good[0][1:], good[0] * 2, (0, 0, 0), (2,) * 6):
                self.assertIs(scheme.judge(question, (), shown), False)

    def test_exchanged(self):
        for statement in ALL:
            scheme = AlikeScheme(statement)
            other = ~scheme
            self.assertIsInstance(other, AlikeScheme)
            self.assertEqual(other.statement, ("alike", statement[2], statement[1]))
            self.assertEqual((~other).statement, statement)
            self.assertEqual(scheme.statement, statement)

    def test_mirrored(self):
        scheme = AlikeScheme(ONE_EDGE)
        self.assertEqual(scheme.mirrored((0, 1, 2, 3, 4, 5, 6, 7, 8)), (0, 1, 2, 6, 7, 8, 3, 4, 5))
        self.assertEqual(AlikeScheme(ALIKES[0]).mirrored((7, -1)), (-1, 7))
        for contents in ((), (0,) * 8, (0,) * 10):
            with self.assertRaises(BadContents):
                scheme.mirrored(contents)

    def test_mirrored_contents_are_accepted_for_the_other_question(self):
        for statement in (ALIKES[1], ALIKES[2], alike(EDGE, make_graph(2, []))):
            scheme = AlikeScheme(statement)
            for contents in itertools.product((-1, 0, 1, 2), repeat=scheme.boxes):
                for question in (0, 1):
                    self.assertIs(scheme.accepts(contents, question, ()),
                                  (~scheme).accepts(scheme.mirrored(contents), 1 - question, ()))

    def test_mirrored_knower(self):
        for statement in ALL:
            scheme = AlikeScheme(statement)
            for witness in all_witnesses(statement)[:5]:
                for draw in range(0, scheme.draws, 1 + scheme.draws // 50):
                    contents = scheme.fill(witness, draw)
                    self.assertEqual(scheme.mirrored(scheme.mirrored(contents)), contents)
                    other = scheme.matching_draw(witness, 1, draw)
                    self.assertEqual((~scheme).fill(inverse(witness), other), scheme.mirrored(contents))

    def test_false_statement(self):
        scheme = AlikeScheme(ALIKES[2])
        for contents in itertools.product((-1, 0, 1, 2), repeat=scheme.boxes):
            self.assertLess(len(scheme.passed(contents)), 2)

    def test_draws_by_hand(self):
        scheme = AlikeScheme(ONE_EDGE)
        self.assertEqual(permutation(3, 3), (1, 2, 0))
        self.assertEqual(scheme.fill((2, 1, 0), 3), (0, 0, 1, 1, 2, 0, 0, 2, 1))
        self.assertEqual(scheme.matching_draw((2, 1, 0), 1, 3), 1)
        self.assertEqual(scheme.matching_draw((2, 1, 0), 0, 3), 3)
        self.assertEqual(scheme.original_draw((2, 1, 0), 1, 1), 3)
        self.assertEqual(scheme.matching_draw((1, 2, 0), 1, 0), 4)
        self.assertEqual(scheme.original_draw((1, 2, 0), 1, 0), 3)
        self.assertEqual(scheme.read((0, 0, 1, 1, 2, 0, 0, 2, 1), ((), ())), (2, 1, 0))

    def test_lists_are_new(self):
        scheme = AlikeScheme(ONE_EDGE)
        scheme.words(0).clear()
        self.assertEqual(scheme.words(0), [()])


if __name__ == "__main__":
    unittest.main()
