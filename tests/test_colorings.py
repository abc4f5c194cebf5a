"""Points 80 to 86: colorings and the scheme for a colors statement, with point 20 for it."""

import itertools
import unittest
from fractions import Fraction
from math import factorial

from contract import CONTRACT, ContractChecks
from interface import InterfaceChecks
from provedunseen.colorings import (
    ColorScheme, best_chance, best_coloring, color_form, proper_edges, quick_coloring, recolor,
)
from provedunseen.errors import BadContents, BadPermutation, BadStatement, BadWitness
from provedunseen.graphs import make_graph
from provedunseen.meaning import holds
from provedunseen.perms import permutation
from provedunseen.ratios import Ratio
from provedunseen.schemes import Scheme
from provedunseen.statements import colors
from samples import ALIKES, CIRCUITS, COLORS, EDGE, JOINS, RINGS, STAR, all_witnesses, cycle, full, path

OTHERS = (RINGS[0], ALIKES[4], CIRCUITS[0], JOINS[0], JOINS[5])
LONELY = colors(make_graph(5, [(1, 3), (3, 4)]), 3)
ALL = COLORS + [LONELY] + [colors(graph, count) for count in (2, 3, 4)
                           for graph in (path(3), full(3), cycle(5), STAR, full(4), make_graph(4, [(1, 2)]))]
TRIANGLE = colors(full(3), 3)


def proper(statement, contents):
    _, (_, edges), count = statement
    return tuple(number for number, (a, b) in enumerate(edges)
                 if contents[a] != contents[b] and {contents[a], contents[b]} <= set(range(count)))


def colorings_of(statement):
    return itertools.product(range(statement[2]), repeat=statement[1][0])


class EdgesTest(unittest.TestCase, InterfaceChecks):
    def test_interface(self):
        self.check_functions("colorings", {
            "proper_edges": "(statement, contents)", "recolor": "(coloring, row)", "color_form": "(coloring)",
            "best_coloring": "(statement, *, start=())", "best_chance": "(statement)",
            "quick_coloring": "(statement)",
        })
        self.check_methods("colorings", "ColorScheme", {"__init__": "(self, statement)", **CONTRACT})
        self.assertTrue(issubclass(ColorScheme, Scheme))

    def test_proper_edges(self):
        for statement in ALL:
            nodes, count = statement[1][0], statement[2]
            entries = range(-1, count + 1) if nodes <= 4 else range(count)
            for contents in itertools.product(entries, repeat=nodes):
                self.assertEqual(proper_edges(statement, contents), proper(statement, contents))
        self.assertEqual(proper_edges(TRIANGLE, (0, 10 ** 9, 2)), (1,))
        self.assertEqual(proper_edges(TRIANGLE, (-1, -1, 1)), ())
        self.assertEqual(proper_edges(TRIANGLE, (2, 1, 2)), (0, 2))

    def test_errors_in_their_order(self):
        for statement in OTHERS:
            for contents in ((), (0, 1, 2), (0,) * 9):
                with self.assertRaises(BadStatement):
                    proper_edges(statement, contents)
        for contents in ((), (0, 1), (0, 1, 2, 0)):
            with self.assertRaises(BadContents):
                proper_edges(TRIANGLE, contents)


class RecolorTest(unittest.TestCase):
    def test_recolor(self):
        for size in range(5):
            for row in itertools.permutations(range(size)):
                for length in range(4):
                    for coloring in itertools.product(range(size), repeat=length):
                        self.assertEqual(recolor(coloring, row), tuple(row[color] for color in coloring))
        self.assertEqual(recolor((), ()), ())
        self.assertEqual(recolor((5, 0, 5), (5, 4, 3, 2, 1, 0)), (0, 5, 0))

    def test_errors_in_their_order(self):
        for row in ((1,), (0, 0), (-1, 0), (0, 2), tuple(range(7)), (0, 1, 1)):
            for coloring in ((), (0,), (9,), (-1,)):
                with self.assertRaises(BadPermutation):
                    recolor(coloring, row)
        for coloring, row in (((0,), ()), ((2,), (1, 0)), ((-1,), (1, 0)), ((0, 1, 2), (1, 0)), ((0, -2), (0, 1, 2)),
                              ((6,), tuple(range(6)))):
            with self.assertRaises(BadWitness):
                recolor(coloring, row)

    def test_form(self):
        for row, form in (((), ()), ((7,), (0,)), ((3, 3, -1, 3, 10 ** 9, -1), (0, 0, 1, 0, 2, 1)), ((1, 0), (0, 1)),
                          (tuple(range(60, 0, -1)), tuple(range(60))), ((5,) * 60, (0,) * 60)):
            self.assertEqual(color_form(row), form)

    def test_form_is_the_least_recoloring(self):
        rows = list(itertools.permutations(range(3)))
        for coloring in itertools.product(range(3), repeat=4):
            self.assertEqual(color_form(coloring), min(recolor(coloring, row) for row in rows))
            for other in itertools.product(range(3), repeat=4):
                same = other in [recolor(coloring, row) for row in rows]
                self.assertIs(color_form(coloring) == color_form(other), same)


class BestTest(unittest.TestCase):
    def test_best_coloring(self):
        for statement in ALL:
            nodes, count = statement[1][0], statement[2]
            scored = [(len(proper(statement, each)), each) for each in colorings_of(statement)]
            starts = [start for size in range(nodes + 1) for start in itertools.product(range(count), repeat=size)]
            for start in starts[:30] + starts[-5:]:
                begun = [(score, each) for score, each in scored if each[:len(start)] == start]
                number = max(score for score, _ in begun)
                best = min(each for score, each in begun if score == number)
                self.assertEqual(best_coloring(statement, start=start), (number, best))
            self.assertEqual(best_coloring(statement), best_coloring(statement, start=()))
            ratio = best_chance(statement)
            fraction = Fraction(max(score for score, _ in scored), len(statement[1][1]))
            self.assertIsInstance(ratio, Ratio)
            self.assertEqual((ratio.part, ratio.whole), (fraction.numerator, fraction.denominator))

    def test_example(self):
        self.assertEqual(best_coloring(colors(full(3), 2)), (2, (0, 0, 1)))
        self.assertEqual(str(best_chance(colors(full(3), 2))), "2/3")
        self.assertEqual(best_coloring(colors(full(3), 2), start=(1, 1)), (2, (1, 1, 0)))
        self.assertEqual(best_coloring(colors(full(3), 2), start=(1, 1, 1)), (0, (1, 1, 1)))

    def test_errors_in_their_order(self):
        for statement in OTHERS:
            for start in ((), (0,), (-1,), (0,) * 9):
                with self.assertRaises(BadStatement):
                    best_coloring(statement, start=start)
            for call in (best_chance, quick_coloring):
                with self.assertRaises(BadStatement):
                    call(statement)
        for start in ((0, 1, 2, 0), (0,) * 7, (3,), (0, -1), (0, 1, 3), (9, 9, 9, 9)):
            with self.assertRaises(BadWitness):
                best_coloring(TRIANGLE, start=start)
        with self.assertRaises(BadWitness):
            best_coloring(colors(EDGE, 2), start=(2,))

    def test_quick_coloring(self):
        for statement in ALL:
            _, (nodes, edges), count = statement
            expected = []
            for node in range(nodes):
                near = [expected[a] for a, b in edges if b == node]
                expected.append(min(range(count), key=lambda color: (near.count(color), color)))
            coloring = quick_coloring(statement)
            self.assertEqual(coloring, tuple(expected))
            self.assertGreaterEqual(count * len(proper(statement, coloring)), (count - 1) * len(edges))
        self.assertEqual(quick_coloring(colors(full(6), 4)), (0, 1, 2, 3, 0, 1))
        self.assertEqual(quick_coloring(colors(full(4), 2)), (0, 1, 0, 1))
        self.assertEqual(quick_coloring(LONELY), (0, 0, 0, 1, 0))


class SchemeTest(unittest.TestCase, ContractChecks):
    def test_numbers(self):
        for statement in ALL:
            scheme = ColorScheme(statement)
            (nodes, edges), count = statement[1], statement[2]
            self.assertEqual((scheme.questions, scheme.boxes, scheme.draws), (len(edges), nodes, factorial(count)))

    def test_other_statements(self):
        for statement in OTHERS:
            with self.assertRaises(BadStatement):
                ColorScheme(statement)

    def test_witnesses(self):
        for statement in ALL:
            scheme = ColorScheme(statement)
            self.check_values(scheme, lambda value: holds(statement, value))
            self.assertEqual([row for row in colorings_of(statement) if scheme.holds(row)], all_witnesses(statement))

    def test_promises(self):
        for statement in ALL:
            self.check_scheme(ColorScheme(statement), all_witnesses(statement), same=False)

    def test_errors(self):
        for statement in (TRIANGLE, colors(EDGE, 2), LONELY):
            self.check_errors(ColorScheme(statement), all_witnesses(statement)[0])

    def test_knower(self):
        for statement in ALL:
            scheme = ColorScheme(statement)
            for witness in all_witnesses(statement)[:5]:
                for draw, row in enumerate(itertools.permutations(range(statement[2]))):
                    contents = scheme.fill(witness, draw)
                    self.assertEqual(contents, tuple(row[color] for color in witness))
                    for question, (a, b) in enumerate(statement[1][1]):
                        self.assertEqual(scheme.simulate(question, draw), ((), row[:2]))
                        self.assertEqual(scheme.reply(witness, draw, question), ((), (contents[a], contents[b])))
                        self.check_matching_draw(scheme, statement, witness, question, draw)

    def check_matching_draw(self, scheme, statement, witness, question, draw):
        """Check the matching draw: s begins with the colors of the ends and goes on with the others."""
        a, b = statement[1][1][question]
        ends = (witness[a], witness[b])
        s = ends + tuple(color for color in range(statement[2]) if color not in ends)
        row = permutation(statement[2], draw)
        matching = permutation(statement[2], scheme.matching_draw(witness, question, draw))
        self.assertEqual(matching, tuple(row[color] for color in s))
        original = permutation(statement[2], scheme.original_draw(witness, question, draw))
        self.assertEqual(tuple(original[color] for color in s), row)

    def test_words_and_boxes(self):
        scheme = ColorScheme(LONELY)
        for question, edge in enumerate(((1, 3), (3, 4))):
            self.assertEqual(scheme.words(question), [()])
            self.assertEqual(scheme.boxes_for(question, ()), edge)
            for word in ((), (0,), (5, -5)):
                self.assertEqual(scheme.word_length(question, word), 0)
            for word in ((0,), (-1,), (0, 1)):
                self.assertIsNone(scheme.boxes_for(question, word))
                self.assertIs(scheme.judge(question, word, (0, 1)), False)
                self.assertIsNone(scheme.find_draw(question, word, (0, 1)))

    def test_judge_and_find_draw(self):
        for statement in (colors(EDGE, 2), TRIANGLE, colors(full(4), 4)):
            scheme = ColorScheme(statement)
            rows = list(itertools.permutations(range(statement[2])))
            for shown in itertools.product(range(-1, 6), repeat=2):
                good = shown[0] != shown[1] and set(shown) <= set(range(statement[2]))
                self.assertIs(scheme.judge(0, (), shown), good)
                least = [draw for draw, row in enumerate(rows) if row[:2] == shown]
                self.assertEqual(scheme.find_draw(0, (), shown), least[0] if least else None)
            for shown in ((), (0,), (0, 1, 0), (0, 1, 1)):
                self.assertIs(scheme.judge(0, (), shown), False)
                self.assertIsNone(scheme.find_draw(0, (), shown))

    def test_passed_questions_are_proper_edges(self):
        for statement in (TRIANGLE, LONELY, colors(STAR, 2), colors(full(4), 3)):
            scheme = ColorScheme(statement)
            for contents in itertools.product((-1, 0, 1, 2, 3), repeat=scheme.boxes):
                passed = scheme.passed(contents)
                self.assertEqual(passed, proper_edges(statement, contents))
                if len(passed) == scheme.questions:
                    self.assertTrue(scheme.holds(scheme.extract(contents, ((),) * scheme.questions)))

    def test_read(self):
        scheme = ColorScheme(LONELY)
        self.assertEqual(scheme.extract((7, 2, -1, 0, 1), ((), ())), (0, 2, 0, 0, 1))
        self.assertEqual(scheme.read((1, 2, 1, 0, 1), ((), ())), (0, 2, 0, 0, 1))

    def test_example(self):
        scheme = ColorScheme(TRIANGLE)
        self.assertEqual(permutation(3, 3), (1, 2, 0))
        self.assertEqual(scheme.boxes_for(1, ()), (0, 2))
        self.assertEqual(scheme.reply((0, 1, 2), 3, 1), ((), (1, 0)))
        self.assertEqual(scheme.matching_draw((0, 1, 2), 1, 3), 2)

    def test_lists_are_new(self):
        scheme = ColorScheme(TRIANGLE)
        scheme.words(2).clear()
        self.assertEqual(scheme.words(2), [()])


if __name__ == "__main__":
    unittest.main()
