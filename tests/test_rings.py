"""Points 61 to 66: the scheme for a ring statement, with point 20 for it."""

import inspect
import itertools
import unittest
from math import factorial

from contract import CONTRACT, ContractChecks
from interface import InterfaceChecks
from provedunseen.errors import BadStatement
from provedunseen.graphs import edge_table, make_graph, relabel, ring_edges, ring_form, ring_forms
from provedunseen.meaning import holds
from provedunseen.perms import permutation
from provedunseen.rings import RingScheme
from provedunseen.schemes import Scheme
from provedunseen.statements import ring
from samples import ALIKES, COLORS, CIRCUITS, HOUSE, JOINS, RINGS, STAR, all_witnesses, cycle, full

SQUARE = ring(make_graph(4, [(0, 1), (0, 3), (1, 2), (2, 3)]))
SMALL = [statement for statement in RINGS if statement[1][0] <= 5]


class RingTest(unittest.TestCase, InterfaceChecks, ContractChecks):
    def test_interface(self):
        self.check_methods("rings", "RingScheme", {
            "__init__": "(self, statement)", **CONTRACT, "draws_around": "(self, word)",
        })
        self.assertTrue(issubclass(RingScheme, Scheme))
        self.assertEqual((RingScheme.SHOW_GRAPH, RingScheme.SHOW_RING), (0, 1))
        self.assertTrue(inspect.isgeneratorfunction(RingScheme.draws_around))

    def test_numbers(self):
        for statement in RINGS:
            scheme = RingScheme(statement)
            nodes = statement[1][0]
            self.assertEqual(scheme.statement, statement)
            self.assertEqual(scheme.questions, 2)
            self.assertEqual(scheme.draws, factorial(nodes))
            self.assertEqual(scheme.boxes, nodes + len(edge_table(statement[1])))
        self.assertEqual((RingScheme(ring(full(6))).boxes, RingScheme(ring(full(6))).draws), (21, 720))

    def test_other_statements(self):
        for statement in (ALIKES[4], CIRCUITS[0], COLORS[3], JOINS[0], JOINS[5]):
            with self.assertRaises(BadStatement):
                RingScheme(statement)

    def test_witnesses(self):
        for statement in RINGS:
            scheme = RingScheme(statement)
            self.check_values(scheme, lambda value: holds(statement, value))
            for row in itertools.permutations(range(statement[1][0])):
                self.assertIs(scheme.holds(row), row in all_witnesses(statement))

    def test_promises(self):
        for statement in RINGS:
            self.check_scheme(RingScheme(statement), all_witnesses(statement))

    def test_errors(self):
        for statement in (SQUARE, ring(full(3)), ring(HOUSE)):
            self.check_errors(RingScheme(statement), all_witnesses(statement)[0])

    def test_fill(self):
        for statement in SMALL:
            scheme = RingScheme(statement)
            nodes = statement[1][0]
            for witness in all_witnesses(statement)[:3]:
                for draw, row in enumerate(itertools.permutations(range(nodes))):
                    expected = row + edge_table(relabel(statement[1], row))
                    self.assertEqual(scheme.fill(witness, draw), expected)
                    self.assertEqual(scheme.simulate(0, draw), ((), expected))
                    moved = tuple(row[node] for node in witness)
                    self.assertEqual(scheme.word(witness, draw, 1), ring_form(moved))
                    self.assertEqual(scheme.word(witness, draw, 0), ())
                    self.assertEqual(scheme.simulate(1, draw), (ring_form(row), (1,) * nodes))

    def test_words_and_boxes(self):
        for nodes in (3, 4, 5, 6):
            scheme = RingScheme(ring(full(nodes)))
            self.assertEqual(scheme.words(0), [()])
            self.assertEqual(scheme.words(1), ring_forms(nodes))
            self.assertEqual(scheme.boxes_for(0, ()), tuple(range(scheme.boxes)))
            pairs = list(itertools.combinations(range(nodes), 2))
            for word in ring_forms(nodes):
                boxes = tuple(nodes + pairs.index(edge) for edge in ring_edges(word))
                self.assertEqual(scheme.boxes_for(1, word), boxes)

    def test_what_is_no_word(self):
        scheme = RingScheme(SQUARE)
        for word in ((0,), (0, 1, 2, 3), (-1,)):
            self.assertIsNone(scheme.boxes_for(0, word))
            self.assertIs(scheme.judge(0, word, scheme.simulate(0, 5)[1]), False)
        for word in ((), (0,), (0, 3, 2, 1), (1, 2, 3, 0), (0, 1, 2), (0, 1, 2, 3, 4), (0, 1, 1, 2), (0, 1, 2, 4)):
            self.assertIsNone(scheme.boxes_for(1, word))
            self.assertIs(scheme.judge(1, word, (1, 1, 1, 1)), False)
            self.assertIsNone(scheme.find_draw(1, word, (1, 1, 1, 1)))

    def test_word_length(self):
        for nodes in (3, 4, 6):
            scheme = RingScheme(ring(full(nodes)))
            for word in ((), (5,), (7, -2, 10 ** 9), tuple(range(9))):
                self.assertEqual(scheme.word_length(0, word), 0)
            for size in range(9):
                for word in (tuple(range(size)), (-5,) * size):
                    self.assertEqual(scheme.word_length(1, word), nodes if size >= nodes else None)

    def test_judge_of_the_graph(self):
        scheme = RingScheme(ring(make_graph(3, [(0, 1), (1, 2)])))
        good = [scheme.simulate(0, draw)[1] for draw in range(6)]
        for row in itertools.product((-1, 0, 1, 2), repeat=3):
            for table in itertools.product((0, 1), repeat=3):
                self.assertIs(scheme.judge(0, (), row + table), row + table in good)
        for shown in ((), good[0][:-1], good[0] + (0,), good[0] + good[1]):
            self.assertIs(scheme.judge(0, (), shown), False)

    def test_judge_of_the_ring(self):
        scheme = RingScheme(ring(STAR))
        for shown in itertools.product((-1, 0, 1, 2), repeat=4):
            self.assertIs(scheme.judge(1, (0, 2, 1, 3), shown), shown == (1, 1, 1, 1))
        for shown in ((), (1,) * 3, (1,) * 5):
            self.assertIs(scheme.judge(1, (0, 2, 1, 3), shown), False)

    def test_draws_around(self):
        for nodes in (3, 4, 5, 6):
            scheme = RingScheme(ring(cycle(nodes)))
            simulated = {}
            for draw in range(scheme.draws):
                simulated.setdefault(scheme.simulate(1, draw)[0], []).append(draw)
            self.assertEqual(sorted(simulated), ring_forms(nodes))
            for word, draws in simulated.items():
                self.assertEqual(list(scheme.draws_around(word)), draws)
                self.assertEqual(len(draws), 2 * nodes)
            for word in ((), (0,), tuple(range(nodes))[::-1], tuple(range(nodes + 1)), tuple(range(nodes - 1)),
                         (0,) * nodes, (-1,) + tuple(range(1, nodes)), (10 ** 9,), tuple(range(1, nodes + 1))):
                self.assertEqual(list(scheme.draws_around(word)), [])

    def test_false_statement(self):
        """No contents are accepted for both questions."""
        for statement in (ring(make_graph(3, [(0, 1), (0, 2)])), ring(make_graph(3, []))):
            scheme = RingScheme(statement)
            for row in itertools.permutations(range(3)):
                for table in itertools.product((0, 1), repeat=3):
                    self.assertLess(len(scheme.passed(row + table)), 2)

    def test_example(self):
        scheme = RingScheme(SQUARE)
        witness = (0, 1, 2, 3)
        self.assertEqual(permutation(4, 4), (0, 3, 1, 2))
        self.assertEqual(scheme.fill(witness, 4), (0, 3, 1, 2, 0, 1, 1, 1, 1, 0))
        self.assertEqual(scheme.reply(witness, 4, 1), ((0, 2, 1, 3), (1, 1, 1, 1)))
        self.assertEqual(scheme.boxes_for(1, (0, 2, 1, 3)), (5, 6, 7, 8))
        self.assertEqual(scheme.matching_draw(witness, 1, 4), 4)
        self.assertEqual(scheme.find_draw(1, (0, 2, 1, 3), (1, 1, 1, 1)), 2)

    def test_lists_are_new(self):
        scheme = RingScheme(SQUARE)
        for question in (0, 1):
            words = scheme.words(question)
            words.clear()
            self.assertEqual(len(scheme.words(question)), (1, 3)[question])


if __name__ == "__main__":
    unittest.main()
