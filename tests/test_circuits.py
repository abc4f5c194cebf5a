"""Points 76 to 79: the scheme for a circuit statement, with point 20 for it."""

import itertools
import random
import unittest

from contract import CONTRACT, ContractChecks
from interface import InterfaceChecks
from provedunseen.circuits import CircuitScheme
from provedunseen.errors import BadContents, BadStatement, BadWitness
from provedunseen.masks import bit_rows, bits, flipped, masked_rows
from provedunseen.meaning import holds, wire_values
from provedunseen.schemes import Scheme
from provedunseen.statements import circuit
from samples import ALIKES, AND, CIRCUITS, COLORS, JOINS, NEVER, OR, RINGS, all_witnesses

LARGE = circuit(4, [("and", 0, 1), ("or", 2, 3), ("xor", 4, 5), ("not", 6), ("or", 7, 7), ("xor", 8, 0)])
ONE = circuit(1, [("not", 0)])
SAME = circuit(2, [("and", 1, 1), ("xor", 2, 0)])
ALL = CIRCUITS + [LARGE, SAME, circuit(3, [("or", 0, 2)])]


def filled(statement, flips):
    """The contents of a deal with these flips."""
    _, inputs, gates = statement
    known = flips + (0,)
    contents = list(flips)
    for place, gate in enumerate(gates):
        contents.extend(masked_rows(gate, known, known[inputs + place]))
    return tuple(contents)


def wires(statement):
    """The number of wires but the output."""
    return statement[1] + len(statement[2]) - 1


class CircuitTest(unittest.TestCase, InterfaceChecks, ContractChecks):
    def test_interface(self):
        self.check_methods("circuits", "CircuitScheme", {
            "__init__": "(self, statement)", **CONTRACT, "faults": "(self, contents)", "walk": "(self, contents, row)",
        })
        self.assertTrue(issubclass(CircuitScheme, Scheme))

    def test_numbers(self):
        for statement in ALL:
            scheme = CircuitScheme(statement)
            rows = sum(2 if gate[0] == "not" else 4 for gate in statement[2])
            self.assertEqual((scheme.questions, scheme.draws), (2, 2 ** wires(statement)))
            self.assertEqual(scheme.boxes, wires(statement) + rows)
        self.assertEqual((CircuitScheme(ONE).boxes, CircuitScheme(ONE).draws), (3, 2))
        self.assertEqual((CircuitScheme(LARGE).boxes, CircuitScheme(LARGE).draws), (31, 512))

    def test_other_statements(self):
        for statement in (RINGS[0], ALIKES[0], COLORS[3], JOINS[0], JOINS[5]):
            with self.assertRaises(BadStatement):
                CircuitScheme(statement)

    def test_witnesses(self):
        for statement in ALL:
            scheme = CircuitScheme(statement)
            self.check_values(scheme, lambda value: holds(statement, value))
            self.assertEqual([row for row in bit_rows(statement[1]) if scheme.holds(row)], all_witnesses(statement))

    def test_promises(self):
        for statement in ALL:
            self.check_scheme(CircuitScheme(statement), all_witnesses(statement))

    def test_errors(self):
        for statement in (ONE, OR, LARGE):
            self.check_errors(CircuitScheme(statement), all_witnesses(statement)[0])

    def test_fill_and_words(self):
        for statement in ALL:
            scheme = CircuitScheme(statement)
            many = wires(statement)
            for draw in range(0, scheme.draws, 1 + scheme.draws // 64):
                flips = bits(draw, many)
                self.assertEqual(scheme.simulate(0, draw), ((), filled(statement, flips)))
                self.assertEqual(scheme.simulate(1, draw), (flips, flips[statement[1]:] + (1,)))
                for witness in all_witnesses(statement)[:3]:
                    self.assertEqual(scheme.fill(witness, draw), filled(statement, flips))
                    self.assertEqual(scheme.word(witness, draw, 0), ())
                    values = wire_values(statement, witness)
                    word = flipped(values[:-1], flips)
                    self.assertEqual(scheme.word(witness, draw, 1), word)
                    self.assertEqual(scheme.reply(witness, draw, 1), (word, word[statement[1]:] + (1,)))

    def test_words_and_boxes(self):
        for statement in ALL:
            scheme = CircuitScheme(statement)
            many = wires(statement)
            self.assertEqual(scheme.words(0), [()])
            self.assertEqual(scheme.words(1), bit_rows(many))
            self.assertEqual(scheme.boxes_for(0, ()), tuple(range(scheme.boxes)))
            for word in scheme.words(1):
                start, expected = many, []
                for gate in statement[2]:
                    if gate[0] == "not":
                        expected.append(start + word[gate[1]])
                        start += 2
                    else:
                        expected.append(start + 2 * word[gate[1]] + word[gate[2]])
                        start += 4
                self.assertEqual(scheme.boxes_for(1, word), tuple(expected))
            for word in ((0,) * (many + 1), (0,) * (many - 1), (2,) + (0,) * (many - 1), (-1,) * many):
                self.assertIsNone(scheme.boxes_for(1, word))
                self.assertIs(scheme.judge(1, word, (1,) * len(statement[2])), False)
            self.assertIsNone(scheme.boxes_for(0, (0,)))

    def test_word_length(self):
        for statement in (ONE, OR, LARGE):
            scheme = CircuitScheme(statement)
            many = wires(statement)
            for size in range(12):
                for word in ((0,) * size, (7,) * size):
                    self.assertEqual(scheme.word_length(0, word), 0)
                    self.assertEqual(scheme.word_length(1, word), many if size >= many else None)

    def test_judge(self):
        for statement in (ONE, AND, circuit(1, [("xor", 0, 0), ("not", 1)])):
            scheme = CircuitScheme(statement)
            good = [filled(statement, flips) for flips in bit_rows(wires(statement))]
            entries = (-1, 0, 1, 2) if scheme.boxes < 6 else (0, 1)
            for shown in itertools.product(entries, repeat=scheme.boxes):
                self.assertIs(scheme.judge(0, (), shown), shown in good)
            for shown in ((), good[0][:-1], good[0] + (0,)):
                self.assertIs(scheme.judge(0, (), shown), False)
            for word in scheme.words(1):
                for shown in itertools.product((-1, 0, 1, 2), repeat=len(statement[2])):
                    self.assertIs(scheme.judge(1, word, shown), shown == word[statement[1]:] + (1,))
                self.assertIs(scheme.judge(1, word, word[statement[1]:]), False)
                self.assertIs(scheme.judge(1, word, word[statement[1]:] + (1, 1)), False)

    def test_example(self):
        scheme = CircuitScheme(("circuit", 2, (("and", 0, 1),)))
        self.assertEqual(scheme.fill((1, 1), 1), (1, 0, 0, 1, 0, 0))
        self.assertEqual(scheme.word((1, 1), 1, 1), (0, 1))
        self.assertEqual(scheme.boxes_for(1, (0, 1)), (3,))
        self.assertEqual(scheme.matching_draw((1, 1), 1, 1), 2)
        self.assertEqual(scheme.matching_draw((1, 1), 0, 1), 1)

    def test_lists_are_new(self):
        scheme = CircuitScheme(OR)
        for question in (0, 1):
            scheme.words(question).clear()
            self.assertEqual(len(scheme.words(question)), (1, 4)[question])


def walked(statement, contents, row):
    """The walk through the tables, found in a way of its own."""
    _, inputs, gates = statement
    found = list(row)
    start = wires(statement)
    for gate in gates:
        number = int("".join(str(found[wire]) for wire in gate[1:]), 2)
        content = contents[start + number]
        if content not in (0, 1):
            return None
        found.append(content)
        start += 2 ** len(gate[1:])
    return tuple(found)


def spoilt_contents(statement):
    """Some contents: right ones, with a box changed, and others."""
    chance = random.Random(len(statement[2]))
    scheme = CircuitScheme(statement)
    for flips in bit_rows(wires(statement))[::1 + 2 ** wires(statement) // 8]:
        right = filled(statement, flips)
        yield right
        for _ in range(8):
            box = chance.randrange(scheme.boxes)
            yield right[:box] + (chance.choice((1 - right[box], 1 - right[box], -1, 2, 99)),) + right[box + 1:]
        yield tuple(chance.choice((0, 1)) for _ in right)
        yield tuple(chance.choice((-1, 0, 1, 1)) for _ in right)


class FaultsTest(unittest.TestCase):
    def test_one_box_changed(self):
        for statement in ALL:
            scheme = CircuitScheme(statement)
            many = wires(statement)
            for flips in bit_rows(many)[::1 + 2 ** many // 8]:
                right = filled(statement, flips)
                self.assertEqual(scheme.faults(right), ())
                for box in range(scheme.boxes):
                    for content in (1 - right[box], -1, 2, 99):
                        changed = right[:box] + (content,) + right[box + 1:]
                        if box >= many or content not in (0, 1):
                            self.assertEqual(scheme.faults(changed), (box,))
                        else:
                            expected = filled(statement, changed[:many])
                            self.assertEqual(scheme.faults(changed), tuple(
                                each for each in range(scheme.boxes) if changed[each] != expected[each]))
                        self.assertIs(scheme.accepts(changed, 0, ()), scheme.faults(changed) == ())

    def test_flips_come_first(self):
        scheme = CircuitScheme(AND)
        self.assertEqual(scheme.faults((2, 0, 9, 9, 9, 9)), (0,))
        self.assertEqual(scheme.faults((-1, 5, 0, 0, 0, 1)), (0, 1))
        self.assertEqual(scheme.faults((0, 0, 9, 0, -1, 0)), (2, 4, 5))

    def test_number_of_contents(self):
        for statement in (ONE, LARGE):
            scheme = CircuitScheme(statement)
            for size in (0, scheme.boxes - 1, scheme.boxes + 1):
                with self.assertRaises(BadContents):
                    scheme.faults((0,) * size)
                for row in ((0,) * statement[1], (), (2,)):
                    with self.assertRaises(BadContents):
                        scheme.walk((0,) * size, row)


class WalkTest(unittest.TestCase):
    def test_walk(self):
        for statement in ALL:
            scheme = CircuitScheme(statement)
            for contents in spoilt_contents(statement):
                for row in bit_rows(statement[1]):
                    self.assertEqual(scheme.walk(contents, row), walked(statement, contents, row))

    def test_accepted_words_are_walks_to_1(self):
        for statement in ALL[:9] + [SAME]:
            scheme = CircuitScheme(statement)
            for contents in list(spoilt_contents(statement))[:40]:
                words = [walk[:-1] for walk in (scheme.walk(contents, row) for row in bit_rows(statement[1]))
                         if walk is not None and walk[-1] == 1]
                for word in scheme.words(1)[:64]:
                    self.assertIs(scheme.accepts(contents, 1, word), word in words)

    def test_walk_of_right_contents(self):
        for statement in ALL:
            scheme = CircuitScheme(statement)
            many = wires(statement)
            for flips in bit_rows(many)[::1 + 2 ** many // 8]:
                contents = filled(statement, flips)
                for row in bit_rows(statement[1]):
                    start = flipped(row, flips[:statement[1]])
                    expected = flipped(wire_values(statement, row), flips + (0,))
                    self.assertEqual(scheme.walk(contents, start), expected)
                words = [word for word in scheme.words(1) if scheme.accepts(contents, 1, word)]
                self.assertEqual(len(words), len(all_witnesses(statement)))

    def test_only_contents_on_the_way_matter(self):
        scheme = CircuitScheme(AND)
        self.assertEqual(scheme.walk((7, -1, 1, 5, 0, -1), (0, 0)), (0, 0, 1))
        self.assertEqual(scheme.walk((7, -1, 1, 5, 0, -1), (1, 0)), (1, 0, 0))
        self.assertIsNone(scheme.walk((7, -1, 1, 5, 0, -1), (0, 1)))
        self.assertIsNone(scheme.walk((7, -1, 1, 5, 0, -1), (1, 1)))

    def test_rows_that_are_wrong(self):
        scheme = CircuitScheme(AND)
        for row in ((), (0,), (0, 1, 0), (0, 2), (-1, 0), (99, 1)):
            with self.assertRaises(BadWitness):
                scheme.walk((0,) * 6, row)

    def test_false_statement(self):
        scheme = CircuitScheme(NEVER)
        for contents in itertools.product((-1, 0, 1), repeat=scheme.boxes):
            self.assertLess(len(scheme.passed(contents)), 2)


if __name__ == "__main__":
    unittest.main()
