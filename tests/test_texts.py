"""Points 21, 22 and 25 to 30: the texts of statements and witnesses."""

import itertools
import re
import unittest

from interface import InterfaceChecks
from provedunseen.errors import BadText, BadWitness
from provedunseen.graphs import make_graph
from provedunseen.statements import alike, both, circuit, colors, either, ring
from provedunseen.texts import format_statement, format_witness, parse_statement, parse_witness
from samples import AND, EDGE, EMPTY, OR, STATEMENTS, TRUE_RING, all_witnesses, cycle, full

A = "circuit(1; not 0)"
TEXTS = {
    "ring(4; 0-1 0-3 1-2 2-3)": ring(cycle(4)),
    "ring(3; -)": ring(make_graph(3, [])),
    "ring(6; 4-5)": ring(make_graph(6, [(5, 4)])),
    "alike(1; -; -)": alike(EMPTY, EMPTY),
    "alike(2; -; 0-1)": alike(make_graph(2, []), EDGE),
    "alike(2; 0-1; -)": alike(EDGE, make_graph(2, [])),
    "alike(3; 0-1 1-2; 0-1 0-2)": alike(make_graph(3, [(0, 1), (1, 2)]), make_graph(3, [(0, 1), (0, 2)])),
    "circuit(2; and 0 1, not 2)": circuit(2, [("and", 0, 1), ("not", 2)]),
    "circuit(1; not 0)": circuit(1, [("not", 0)]),
    "circuit(4; xor 3 3, or 4 0, not 1, not 2, not 3, and 8 0)": circuit(4, [
        ("xor", 3, 3), ("or", 4, 0), ("not", 1), ("not", 2), ("not", 3), ("and", 8, 0)]),
    "colors(2; 0-1; 2)": colors(EDGE, 2),
    "colors(3; 0-1 0-2 1-2; 4)": colors(full(3), 4),
    "both(ring(4; 0-1 0-3 1-2 2-3), circuit(2; and 0 1))": both(TRUE_RING, AND),
    "either(alike(2; -; 0-1), circuit(2; and 0 1, not 2))": either(
        alike(make_graph(2, []), EDGE), circuit(2, [("and", 0, 1), ("not", 2)])),
    "both(either(circuit(2; and 0 1), circuit(2; or 0 1)), circuit(2; or 0 1))": both(either(AND, OR), OR),
}
WITH_ROOM = [
    f"both({A}, {A})", f"either({A}, both({A}, either({A}, {A})))", f"both(both(both({A}, {A}), {A}), {A})",
    f"both(either({A}, {A}), both({A}, {A}))", f"either({A}, both(either({A}, {A}), {A}))",
]
# What is read, and what may not follow it.
WITHOUT_ROOM = [
    ("both(", f"colors(2; 0-1; 2), {A})"), (f"either({A}, ", "colors(2; 0-1; 2))"),
    ("both(both(both(", "both("), ("either(both(either(", f"either({A}, {A}), {A}), {A}), {A})"),
    ("both(both(both(", "either("), (f"both({A}, both({A}, both({A}, ", f"both({A}, {A}))))"),
    (f"both(both({A}, {A}), both({A}, ", "both("), (f"both(both(both({A}, {A}), {A}), ", f"both({A}, {A}))"),
    (f"both({A}, both(both({A}, ", "either("), (f"either({A}, either({A}, either({A}, ", "either("),
    (f"both({A}", f",{A})"), (f"both({A}", ")"), (f"both({A}, {A}", ""), (f"both({A}, {A}", f", {A})"),
    ("both(", f" {A}, {A})"), ("both(", f", {A})"), (f"either({A}, {A})", ")"), ("", f"neither({A}, {A})"),
    ("both(both(both(", "bo"), ("both(", "co"), (f"both({A}, ", "col"), (f"both({A}, ", ")"),
]
BROKEN = {
    # The first piece.
    "": 0, "r": 1, "ri": 2, "ring": 4, "al": 2, "cir": 3, "colors": 6, "bo": 2, "either": 6, "c": 1,
    "x": 0, "rung(": 0, "Ring(3; -)": 0, " ring(3; -)": 0, "ring (3; -)": 0, "ring[3; -]": 0, "(3; -)": 0,
    # Nodes and inputs.
    "ring(2; -)": 5, "ring(7; -)": 5, "ring(0; -)": 5, "ring(03; -)": 5, "ring(33; -)": 5, "ring(; -)": 5,
    "ring(-3; -)": 5, "ring( 3; -)": 5, "alike(0; -; -)": 6, "alike(7; -; -)": 6, "colors(1; 0-1; 2)": 7,
    "colors(7; 0-1; 2)": 7, "circuit(0; not 0)": 8, "circuit(5; not 0)": 8, "circuit(10; not 0)": 8,
    # The pieces behind them.
    "ring(3;-)": 6, "ring(3, -)": 6, "ring(3 ; -)": 6, "ring(3)": 6, "ring(3": 6, "ring(3;": 7, "ring(3; ": 8,
    "circuit(1;not 0)": 9, "alike(2;-;-)": 7, "colors(2 0-1; 2)": 8,
    # Edges.
    "ring(3; )": 8, "ring(3;  -)": 8, "ring(3; -": 9, "ring(3; - )": 9, "ring(3; -0)": 9, "ring(3; --)": 9,
    "ring(3; 0)": 9, "ring(3; 0-)": 10, "ring(3; 0 1)": 9, "ring(3; 0-1": 11, "ring(3; 0-1 ": 12,
    "ring(3; 0-1 )": 12, "ring(3; 0-1  0-2)": 12, "ring(3; 0-1,0-2)": 11, "ring(3; 0-1 -)": 12,
    "ring(3; 3-0)": 8, "ring(3; 0-3)": 10, "ring(3; 00-1)": 8, "ring(3; 0-01)": 10, "ring(3; 0-10)": 10,
    "ring(3; 1-0)": 8, "ring(3; 1-1)": 8, "ring(3; 0-1 0-1)": 12, "ring(3; 0-2 0-1)": 12, "ring(3; 1-2 0-1)": 12,
    "ring(3; 0-1 2-1)": 12, "ring(3; 0-1 0-2 1-0)": 16, "ring(3; 0-1 2-2)": 12, "ring(3; 1-0": 8, "ring(3; 1-": 10,
    "ring(3; 3": 8, "ring(3; 3-": 8, "ring(3; 0-1 3x": 12, "alike(1; 1": 9,
    "alike(1; 0-0; -)": 9, "alike(1; 0-1; -)": 11, "alike(2; -, -)": 10, "alike(2; -)": 10, "alike(2; -;-)": 10,
    "alike(2; -; -; -)": 13, "alike(2; 0-1; 0-1": 17, "alike(2; 0-1; 1-0)": 14, "alike(2; 0-1 0-1; -)": 13,
    "alike(2; -; 0-2)": 14, "alike(2; -; )": 12,
    # Colors.
    "colors(2; -; 2)": 10, "colors(2; ; 2)": 10, "colors(2; 0-1; 1)": 15, "colors(2; 0-1; 5)": 15,
    "colors(2; 0-1; 02)": 15, "colors(2; 0-1; -)": 15, "colors(2; 0-1)": 13, "colors(2; 0-1; 2": 16,
    "colors(2; 0-1; 2 )": 16, "colors(2; 0-1, 2)": 13, "colors(3; 0-2 0-1; 2)": 14,
    # Gates.
    "circuit(1; )": 11, "circuit(1; -)": 11, "circuit(1; n": 12, "circuit(1; nor 0 0)": 11, "circuit(1; not0)": 11,
    "circuit(1; nand 0 0)": 11, "circuit(1; Not 0)": 11, "circuit(1; not )": 15, "circuit(1; not 1)": 15,
    "circuit(1; not 00)": 15, "circuit(1; not  0)": 15, "circuit(2; not 2)": 15, "circuit(1; not 0 0)": 16,
    "circuit(1; and 0)": 16, "circuit(1; and 0 )": 17, "circuit(1; and 0 1)": 17, "circuit(1; and 1 0)": 15,
    "circuit(1; or 0,0)": 15, "circuit(1; xor 0 0 0)": 18, "circuit(1; xor 0 0": 18, "circuit(1; xor 0": 16,
    "circuit(1; not 0,not 0)": 16, "circuit(1; not 0, )": 18, "circuit(1; not 0, not 2)": 22,
    "circuit(1; not 0, and 1 2)": 24, "circuit(1; not 0, not 1": 23, "circuit(1; not 0; not 0)": 16,
    "circuit(1; not 0, not 0, not 0, not 0, not 0, not 0, not 0)": 51, "circuit(1; not 0 ": 16,
    "circuit(1; not 0, not 0, not 0, not 0, not 0, not 0": 51,
    # Behind the end.
    "ring(3; -) ": 10, "ring(3; -))": 10, "circuit(1; not 0)x": 17, "colors(2; 0-1; 2); ": 17,
}


def atom_texts_match(text):
    """Tell in another way whether this is the text of an atom."""
    found = re.fullmatch(r"(ring|alike|colors)\(([1-6]); (.*)\)|circuit\(([1-4]); (.*)\)", text)
    if found is None:
        return False
    if found[4] is not None:
        return gates_match(int(found[4]), found[5].split(", "))
    nodes, parts = int(found[2]), found[3].split("; ")
    good = [edges_match(nodes, part, found[1] != "colors") for part in parts]
    if found[1] == "ring":
        return nodes >= 3 and good == [True]
    if found[1] == "alike":
        return good == [True, True]
    return nodes >= 2 and len(parts) == 2 and good[0] and parts[1] in ("2", "3", "4")


def edges_match(nodes, text, may_be_none):
    if text == "-":
        return may_be_none
    pairs = [f"{a}-{b}" for a, b in itertools.combinations(range(nodes), 2)]
    edges = text.split(" ")
    return edges == [pair for pair in pairs if pair in edges]


def gates_match(inputs, gates):
    for own, gate in enumerate(gates, inputs):
        wires = "|".join(str(wire) for wire in range(own))
        if re.fullmatch(f"not ({wires})|(and|or|xor) ({wires}) ({wires})", gate) is None:
            return False
    return 1 <= len(gates) <= 6


class TextCase(unittest.TestCase):
    def fails_at(self, at, call, *arguments):
        with self.assertRaises(BadText, msg=arguments) as caught:
            call(*arguments)
        self.assertEqual(caught.exception.at, at, arguments)


class StatementTextTest(TextCase, InterfaceChecks):
    def test_interface(self):
        self.check_functions("texts", {
            "format_statement": "(statement)", "parse_statement": "(text)", "format_witness": "(witness)",
            "parse_witness": "(statement, text)",
        })

    def test_given_texts(self):
        for text, statement in TEXTS.items():
            self.assertEqual(format_statement(statement), text)
            self.assertEqual(parse_statement(text), statement)

    def test_every_statement_is_read_back(self):
        met = {}
        for statement in STATEMENTS:
            text = format_statement(statement)
            self.assertEqual(parse_statement(text), statement)
            self.assertTrue(all(" " <= character <= "~" for character in text))
            self.assertEqual(met.setdefault(text, statement), statement)

    def test_cut_short_at_every_place(self):
        for text in [format_statement(statement) for statement in STATEMENTS] + list(TEXTS):
            for length in range(len(text)):
                self.fails_at(length, parse_statement, text[:length])

    def test_broken_rules(self):
        for text, at in BROKEN.items():
            self.fails_at(at, parse_statement, text)

    def test_room_for_atoms(self):
        for text in WITH_ROOM:
            self.assertEqual(format_statement(parse_statement(text)), text)
        for start, rest in WITHOUT_ROOM:
            self.fails_at(len(start), parse_statement, start + rest)
        # Where a piece may stand, its beginning is a text that is cut short.
        for text in ("bo", "both(ci", "both(both(bo", "col", f"both({A}, both(ei"):
            self.fails_at(len(text), parse_statement, text)

    def changed(self, text):
        """All texts with one character changed, left out or put in."""
        for place in range(len(text) + 1):
            for character in "0123456789-; ,()abnor":
                yield text[:place] + character + text[place:]
                yield text[:place] + character + text[place + 1:]
            yield text[:place] + text[place + 1:]

    def test_one_changed_character(self):
        atoms = [text for text, statement in TEXTS.items() if statement[0] not in ("both", "either")]
        for original in atoms:
            for text in self.changed(original):
                if atom_texts_match(text):
                    self.assertEqual(format_statement(parse_statement(text)), text)
                    continue
                with self.assertRaises(BadText, msg=text) as caught:
                    parse_statement(text)
                self.check_at(text, caught.exception.at)

    def check_at(self, text, at):
        """The text up to `at` is whole, or may go on: then it is cut short."""
        self.assertLessEqual(at, len(text))
        if atom_texts_match(text[:at]):
            self.assertEqual(format_statement(parse_statement(text[:at])), text[:at])
        else:
            self.fails_at(at, parse_statement, text[:at])

    def test_one_changed_character_of_joins(self):
        for original in (f"both({A}, either(ring(3; 0-1), alike(1; -; -)))", f"either(both({A}, {A}), {A})"):
            for text in self.changed(original):
                try:
                    statement = parse_statement(text)
                except BadText as error:
                    self.assertTrue(0 <= error.at <= len(text))
                else:
                    self.assertEqual(format_statement(statement), text)


class WitnessTextTest(TextCase):
    def test_given_texts(self):
        for witness, text in (
            (((0, (0, 1)), (1, 0, 1)), "[left 0 1, 1 0 1]"), ((0,), "0"), ((0, (0,)), "left 0"),
            ((1, (1, (2, 0, 1))), "right right 2 0 1"), (((0, 1), (1,)), "[0 1, 1]"),
            ((((0, 1), (1, 1)), ((1, 0), (0, 1))), "[[0 1, 1 1], [1 0, 0 1]]"),
            ((0, ((0,), (1,))), "left [0, 1]"), ((0, 1), "0 1"), ((1, 0), "1 0"), ((1, (0, 99, 10)), "right 0 99 10"),
            (((5, 17), (0, (99,))), "[5 17, left 99]"),
        ):
            self.assertEqual(format_witness(witness), text)

    def test_every_witness_is_read_back(self):
        for statement in STATEMENTS:
            witnesses = all_witnesses(statement)[:60]
            texts = [format_witness(witness) for witness in witnesses]
            self.assertEqual([parse_witness(statement, text) for text in texts], witnesses)
            self.assertEqual(len(set(texts)), len(texts))
            for text in texts[:8]:
                for length in range(len(text)):
                    self.fails_at(length, parse_witness, statement, text[:length])

    def test_broken_rules_of_numbers(self):
        statement = ring(full(3))
        for text, at in {
            "": 0, "0": 1, "0 ": 2, "0 1": 3, "0 1 ": 4, "x": 0, "-1 0 2": 0, " 0 1 2": 0, "00 1 2": 0,
            "100 1 2": 0, "0  1 2": 2, "0,1,2": 1, "0 1 x": 4, "0 1 2 ": 5, "0 1 2 0": 5, "0 1 2)": 5, "0 1 012": 4,
            "[0 1 2]": 0, "left 0 1 2": 0, "0 2 1 ": 5, "9 9 9 9": 5,
        }.items():
            self.fails_at(at, parse_witness, statement, text)

    def test_broken_rules_of_joins(self):
        for text, at in {
            "": 0, "(": 0, "[": 1, "[1": 2, "[1 1": 4, "[1 1,": 5, "[1 1, ": 6, "[1 1, 0 1": 9, "1 1, 0 1": 0,
            "[1 1,0 1]": 4, "[1 1; 0 1]": 4, "[1 1 1, 0 1]": 4, "[1 1, 0 1)": 9, "[1 1, 0 1]]": 10, "[1 1, 0 1] ": 10,
            "[ 1 1, 0 1]": 1, "[left 1 1, 0 1]": 1, "left 1 1": 0, "[1 1, 0]": 7, "[0 0, 0 0": 9,
        }.items():
            self.fails_at(at, parse_witness, both(AND, OR), text)
        for text, at in {
            "": 0, "l": 1, "righ": 4, "left": 4, "left ": 5, "left 1": 6, "Left 1 1": 0, "0 1 1": 0, "[1 1, 1 1]": 0,
            "left  1 1": 5, "left1 1": 0, "left 1 1 ": 8, "right 1 1 1": 9, "middle 1 1": 0, "left left 1 1": 5,
        }.items():
            self.fails_at(at, parse_witness, either(AND, OR), text)

    def test_numbers_as_many_as_nodes_or_inputs(self):
        for statement, text in ((alike(full(3), full(3)), "2 0 1"), (colors(full(3), 3), "1 2 0"),
                                (circuit(3, [("or", 0, 1)]), "0 1 0"), (ring(full(3)), "0 1 2")):
            witness = tuple(int(word) for word in text.split(" "))
            self.assertEqual(parse_witness(statement, text), witness)
            self.fails_at(5, parse_witness, statement, text + " 0")
            self.fails_at(3, parse_witness, statement, text[:3])

    def test_read_but_no_witness(self):
        for statement, text in (
            (ring(full(3)), "0 2 1"), (ring(full(3)), "0 1 99"), (ring(make_graph(3, [])), "0 1 2"),
            (AND, "0 1"), (AND, "1 2"), (alike(EDGE, EDGE), "0 0"), (colors(EDGE, 2), "1 1"), (colors(EDGE, 2), "0 2"),
            (both(AND, OR), "[1 0, 1 1]"), (both(AND, OR), "[1 1, 0 0]"), (either(AND, OR), "left 0 1"),
            (either(AND, OR), "right 0 0"),
        ):
            with self.assertRaises(BadWitness):
                parse_witness(statement, text)

    def test_one_changed_character(self):
        for statement, original in ((both(either(AND, OR), OR), "[right 0 1, 1 1]"), (ring(full(4)), "0 1 3 2")):
            texts = {format_witness(witness): witness for witness in all_witnesses(statement)}
            for place in range(len(original) + 1):
                for character in "012 [],lr":
                    for behind in (place, place + 1):
                        text = original[:place] + character + original[behind:]
                        if text in texts:
                            self.assertEqual(parse_witness(statement, text), texts[text])
                        else:
                            with self.assertRaises((BadText, BadWitness)):
                                parse_witness(statement, text)


if __name__ == "__main__":
    unittest.main()
