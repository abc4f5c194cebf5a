"""Points 131 and 132: meetings that are told by a text."""

import random
import unittest

from interface import InterfaceChecks
from provedunseen.bench import report, report_lines
from provedunseen.building import scheme_of
from provedunseen.errors import BadBench, TapeEnd
from provedunseen.meetings import Meeting
from provedunseen.texts import format_statement, format_witness
from samples import AND, ATOMS, JOINS, all_witnesses

HEAD = [
    "statement alike(2; 0-1; 0-1)",
    "witness 1 0",
    "deals 2",
    "numbers 0 1 5 999999999",
    "coins 1 0 7",
]
MOVES = [
    "offer", "deliver 0", "deliver 1 cut 1", "deliver 1", "deliver 3", "offer cut 2", "offer", "crash", "deliver 99",
]


def text_of(head, moves=()):
    return "\n".join([*head, *moves])


class ReportTest(unittest.TestCase, InterfaceChecks):
    def test_interface(self):
        self.check_functions("bench", {"report": "(text)"})

    def test_without_moves(self):
        self.assertEqual(report(text_of(HEAD)), "\n".join([
            "verdict open", "deal  0 question  1 good", "deal  1 question  0 good", "verdict yes",
        ]))

    def test_line_by_line(self):
        # Letters: sealed 0, ask 0, (the answer is cut behind its row), reply 0, sealed 2; 99 modulo 4 is the last one.
        self.assertEqual(report(text_of(HEAD, MOVES[:2])), "\n".join([
            "deal  0 question  1 open", "verdict open",
            "deal  0 question  1 good", "deal  1 question  0 good", "verdict yes",
        ]))
        self.assertEqual(report(text_of(HEAD, MOVES[:4] + ["deliver 2"])), "\n".join([
            "deal  0 question  1 good", "verdict open",
            "deal  0 question  1 good", "deal  1 question  0 good", "verdict yes",
        ]))
        head = HEAD[:3] + ["numbers 0 1 5 9 9 9", "coins 1 0 7"]
        moves = MOVES[:4] + ["deliver 2"] + MOVES[5:]
        self.assertEqual(report(text_of(head, moves)), "\n".join([
            "deal  0 question  1 good", "deal  2 question  0 open", "verdict open",
            "deal  0 question  1 good", "deal  2 question  0 good", "verdict yes",
        ]))

    def test_numbers_of_two_digits(self):
        head = [
            "statement colors(6; 0-1 0-2 0-3 0-4 0-5 1-2 1-3 1-4 1-5 2-3 2-4; 4)", "witness 0 1 2 3 3 2", "deals 3",
            "numbers " + " ".join(["1"] * 40), "coins 10 9 0 100",
        ]
        moves = ["offer cut 2"] * 10 + ["offer", "deliver 0", "offer", "deliver 2"]
        self.assertEqual(report(text_of(head, moves)), "\n".join([
            "deal 10 question 10 open", "deal 11 question  9 open", "verdict open",
            "deal 10 question 10 good", "deal 11 question  9 good", "deal 12 question  0 good", "verdict yes",
        ]))

    def test_a_bad_deal(self):
        # An honest knower never comes to this.
        meeting = Meeting(scheme_of(AND), (1, 1), 3, (0, 1, 2), (1, 0, 1))
        meeting.run([("offer", 0, -1), ("deliver", 0, -1), ("offer", 0, -1), ("deliver", 2, -1)])
        meeting.asker.bits[0] = 0
        self.assertEqual(report_lines(meeting), ["deal  0 question  1 bad", "deal  1 question  0 open", "verdict no"])

    def test_kinds_of_statements(self):
        chance = random.Random(61)
        for statement in ATOMS + JOINS:
            found = all_witnesses(statement)
            if not found:
                continue
            witness, count = chance.choice(found), chance.randint(1, 3)
            numbers = tuple(chance.choices(range(10 ** 9), k=12))
            coins = tuple(chance.choices(range(10 ** 9), k=6))
            schedule = [("offer", 0, -1), ("offer", 0, 1), ("deliver", 0, -1), ("deliver", 1, 2), ("crash", 0, 0),
                        ("deliver", 1, -1), ("deliver", 2, -1), ("deliver", 99, -1)]
            moves = ["offer", "offer cut 1", "deliver 0", "deliver 1 cut 2", "crash cut 0", "deliver 1", "deliver 2",
                     "deliver 99"]
            meeting = Meeting(scheme_of(statement), witness, count, numbers, coins)
            meeting.run(schedule)
            lines = told(meeting)
            meeting.finish()
            text = text_of([
                f"statement {format_statement(statement)}", f"witness {format_witness(witness)}", f"deals {count}",
                "numbers " + " ".join(map(str, numbers)), "coins " + " ".join(map(str, coins)),
            ], moves)
            self.assertEqual(report(text), "\n".join(lines + told(meeting)))
            self.assertEqual(report(text), "\n".join(lines + told(meeting)))

    def test_what_run_and_finish_raise(self):
        for numbers, coins, moves in (
            ("numbers 0", "coins 1 1", ["offer", "offer"]), ("numbers 0", "coins 1 1", ["offer"]),
            ("numbers 0", "coins 1 1", []), ("numbers 0 0", "coins 1", []), ("numbers 0 0", "coins 1", ["offer cut 0"]),
            ("numbers 0 0 0", "coins 1", ["offer", "deliver 0 cut 0", "deliver 0"]),
        ):
            with self.assertRaises(TapeEnd):
                report(text_of(HEAD[:3] + [numbers, coins], moves))
        self.assertEqual(report(text_of(HEAD[:3] + ["numbers 0 0", "coins 1 1"]))[-11:], "verdict yes")

    def test_bounds_of_numbers(self):
        for line, index in (("deals 1", 2), ("deals 3", 2), ("numbers " + " ".join(["0"] * 40), 3),
                            ("numbers 0 0", 3), ("coins " + " ".join(["999999999"] * 40), 4)):
            head = HEAD[:index] + [line] + HEAD[index + 1:]
            self.assertEqual(report(text_of(head))[-11:], "verdict yes")
        for move in ("offer", "crash", "deliver 0", "deliver 99", "offer cut 0", "offer cut 99", "crash cut 0",
                     "crash cut 99", "deliver 0 cut 0", "deliver 99 cut 99", "deliver 10 cut 10"):
            report(text_of(HEAD, [move]))
        report(text_of(HEAD, ["crash"] * 20))


def told(meeting):
    """The lines of a report, by what the asker has told."""
    asker = meeting.asker
    words = {deal: "open" if deal not in asker.bits else ("bad", "good")[asker.bits[deal]] for deal in asker.questions}
    lines = ["deal " + str(deal).rjust(2) + " question " + str(question).rjust(2) + " " + words[deal]
             for deal, question in asker.questions.items()]
    return lines + ["verdict " + asker.verdict]


class LinesTest(unittest.TestCase):
    def check_bad(self, lines, index):
        with self.subTest(lines=lines):
            with self.assertRaises(BadBench) as caught:
                report("\n".join(lines))
            self.assertEqual(caught.exception.line, index)

    def test_each_line_missing(self):
        for many in range(5):
            self.check_bad(HEAD[:many], many)
        self.check_bad([""], 0)
        for index in range(5):
            self.check_bad(HEAD[:index] + HEAD[index + 1:] + MOVES, index)

    def test_lines_exchanged_and_doubled(self):
        for index in range(5):
            for other in range(index + 1, 5):
                lines = list(HEAD)
                lines[index], lines[other] = lines[other], lines[index]
                self.check_bad(lines + MOVES, index)
            self.check_bad(HEAD[:index + 1] + HEAD[index:] + MOVES, index + 1)
            self.check_bad(HEAD[:index] + ["offer"] + HEAD[index:], index)
        self.check_bad(HEAD + ["offer", "coins 1"], 6)
        self.check_bad(HEAD + ["offer", "deals 2", "crash"], 6)

    def test_an_empty_line(self):
        lines = HEAD + MOVES
        for index in range(len(lines) + 1):
            self.check_bad(lines[:index] + [""] + lines[index:], index)
        # A line feed at the end leaves an empty line.
        for many in range(1, len(lines) + 1):
            self.check_bad(lines[:many] + [""], many)

    def test_lines_that_are_spoilt(self):
        lines = HEAD + MOVES
        for index, line in enumerate(lines):
            first = line.partition(" ")[0]
            for bad in (line + " ", " " + line, line.replace(" ", "  ", 1) + " ", line.capitalize(), line.upper(),
                        line + " 1 cut", first[:-1], "x" + line, line + "\r", line + "\t", first + "s", line[::-1]):
                if bad != line:
                    self.check_bad(lines[:index] + [bad] + lines[index + 1:], index)
            if " " in line:
                for bad in (line.replace(" ", "  ", 1), first, first + " ", line.replace(" ", "\t", 1),
                            line.replace(" ", "", 1)):
                    if bad == "offer":
                        continue
                    self.check_bad(lines[:index] + [bad] + lines[index + 1:], index)
        # The first line that is not as described tells the index.
        for index in range(len(lines)):
            for other in range(index + 1, len(lines)):
                spoilt = list(lines)
                spoilt[index] += " "
                spoilt[other] += " "
                self.check_bad(spoilt, index)

    def test_statements_and_witnesses(self):
        for bad in (
            "statement", "statement ", "statement alike(2; 0-1; 0-1", "statement alike(2; 0-1; 0-1))",
            "statement alike(2;0-1; 0-1)", "statement alike(2; 1-0; 0-1)", "statement Alike(2; 0-1; 0-1)",
            "statement ring(2; 0-1)", "statement both(colors(2; 0-1; 2), circuit(1; not 0))", "statement circuit(1; )",
        ):
            self.check_bad([bad, *HEAD[1:]], 0)
        for bad in ("witness", "witness ", "witness 0", "witness 0 1 ", "witness 0 0", "witness 0 2", "witness 0 1 2",
                    "witness left 0 1", "witness [0 1, 0 1]", "witness 00 1", "witness 0-1"):
            self.check_bad([HEAD[0], bad, *HEAD[2:]], 1)
        # A false statement has no witness.
        self.check_bad(["statement alike(2; 0-1; -)", *HEAD[1:]], 1)

    def test_deals_and_tapes(self):
        for bad in (
            "deals 0", "deals 4", "deals 10", "deals 01", "deals -1", "deals", "deals ", "deals 1 1", "deals +1",
            "deals 1.", "deals one", "deals 1234567890", "deals \u0661", "deals \u00b2",
        ):
            self.check_bad([*HEAD[:2], bad, *HEAD[3:]], 2)
        for index, name in ((3, "numbers"), (4, "coins")):
            for bad in (
                name, name + " ", name + " 1 ", name + "  1", name + " 1  2", name + " 01", name + " 00", name + " -1",
                name + " 1234567890", name + " 0000000000", name + " 1,2", name + " 1 x", name + " 1 +2",
                name + " 1 2_0", name + " " + " ".join(["1"] * 41), name + " \u0661", name + " 1 \u00b2",
                name + " 1\u00a02",
            ):
                self.check_bad([*HEAD[:index], bad, *HEAD[index + 1:], *MOVES], index)

    def test_moves(self):
        for bad in (
            "offer 1", "crash 1", "deliver", "deliver ", "deliver 100", "deliver 01", "deliver -1", "deliver 1 2",
            "deliver x", "offer cut", "offer cut ", "offer cut 100", "offer cut -1", "offer cut 00",
            "offer cut 1 cut 1", "offer cut 1 1", "crash cut 100", "crash cut", "deliver 1 cut", "deliver 1 cut 100",
            "deliver cut 1",
            "deliver 1 cut 1 cut 1", "cut 1", "offer  cut 1", "offer cut  1", "Offer", "offers", "restart", "ask 0 0",
            "offer deliver 1", "deliver 1cut 1", "deliver 1 Cut 1", "deliver 1234567890", "offer cut \u0661",
            "deliver \u00b2", " offer", " cut 1", "offer,crash", "crash cut 1 ",
        ):
            for at in range(3):
                self.check_bad([*HEAD, *MOVES[:at], bad, *MOVES[at:]], 5 + at)

    def test_a_21st_move(self):
        for many in (21, 22, 25):
            self.check_bad(HEAD + ["crash"] * many, 25)
        self.check_bad(HEAD + ["crash"] * 20 + [""], 25)
        self.check_bad(HEAD + ["crash"] * 20 + ["no move"], 25)
        self.check_bad(HEAD + ["crash"] * 19 + ["no move"] + ["crash"] * 5, 24)
        # A bad line comes ahead of what the meeting raises.
        self.check_bad(HEAD[:3] + ["numbers 0", "coins 0"] + ["offer"] * 3 + ["no move"], 8)


class WitnessTest(unittest.TestCase):
    def test_only_witnesses_of_the_statement(self):
        found = all_witnesses(AND)
        for bits in ((0, 0), (0, 1), (1, 0), (1, 1)):
            text = text_of([f"statement {format_statement(AND)}", f"witness {format_witness(bits)}", *HEAD[2:]])
            if bits in found:
                self.assertEqual(report(text)[-11:], "verdict yes")
            else:
                with self.assertRaises(BadBench) as caught:
                    report(text)
                self.assertEqual(caught.exception.line, 1)


if __name__ == "__main__":
    unittest.main()
