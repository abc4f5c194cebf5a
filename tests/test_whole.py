"""Points 18, 20, 44 to 47, 58, 92, 106, 110, 118, 126 and 130: what several modules promise together."""

import unittest

from provedunseen.askers import Asker
from provedunseen.building import scheme_of
from provedunseen.errors import BadQuestion, BadWitness, NothingExtracted, TooLarge
from provedunseen.leaks import best_guess, exchange, is_exchange
from provedunseen.ledgers import Budget, Ledger, Tape
from provedunseen.meetings import Meeting
from provedunseen.plans import extract_from_plan, guess_plan, passed_rows
from provedunseen.programs import Program
from provedunseen.responders import Knower, attempt, given_away
from provedunseen.statements import alike, both, circuit, colors, either
from provedunseen.tabling import paired, tabled
from provedunseen.talks import knower_view, simulator_view
from provedunseen.plain import matching_tape
from provedunseen.trials import trial_count
from provedunseen.views import along_distribution, simulated_view_distribution, view_distribution
from samples import AND, EDGE, EMPTY, FALSE_RING, JOINS, NEVER, OR, STATEMENTS, all_witnesses, full
from table_samples import OPEN, made

NOT = circuit(1, [("not", 0)])
TINY = [NOT, alike(EDGE, EDGE), alike(EMPTY, EMPTY), colors(EDGE, 3), colors(full(3), 3), both(NOT, NOT),
        either(NOT, NEVER), either(alike(EMPTY, EMPTY), alike(EMPTY, EMPTY)), both(alike(EMPTY, EMPTY), NOT)]
FALSE = [NEVER, FALSE_RING, alike(EDGE, (2, ())), both(AND, NEVER), either(NEVER, alike(EDGE, (2, ()))),
         both(either(NEVER, FALSE_RING), OR)]
ASKING = Program([
    (("offer", 0), (), (1, 2)), (("ask", 0, 0), (2,), (2, 3)), (("ask", 0, 1), (), (3, 0, 1)),
    (("ask", 0, 1), (1, 0), (2,)),
])


def most_witnesses(statement):
    """The least and the greatest witness."""
    found = all_witnesses(statement)
    return [found[0], found[-1]] if len(found) > 1 else found


class StatementsTest(unittest.TestCase):
    def test_replies_tell_nothing(self):
        for statement in STATEMENTS:
            scheme = scheme_of(statement)
            for witness in most_witnesses(statement):
                for question in range(scheme.questions):
                    if scheme.draws > 3000:
                        with self.assertRaises(TooLarge):
                            scheme.reply_distribution(witness, question)
                        with self.assertRaises(TooLarge):
                            scheme.simulated_distribution(question)
                    elif scheme.draws <= 800:
                        self.assertTrue(scheme.reply_distribution(witness, question)
                                        == scheme.simulated_distribution(question))
                with self.assertRaises(BadQuestion):
                    scheme.reply_distribution(-7, scheme.questions)
                with self.assertRaises(BadWitness):
                    scheme.reply_distribution(-7, 0)

    def test_schemes_as_tables_do_not_leak(self):
        for statement in TINY:
            scheme, found = scheme_of(statement), all_witnesses(statement)[:6]
            table = tabled(scheme, found, 3 if statement[0] == "colors" else 2)
            self.assertIsNone(table.leak)
            for question in range(table.questions):
                for witness in range(len(found)):
                    row = exchange(table, witness, question)
                    self.assertTrue(is_exchange(table, witness, question, row))
                    self.assertEqual(str(best_guess(table, 0, witness, question)), "1/2")
                    for draw in range(table.draws):
                        matching = table.matching_draw(witness, question, draw)
                        self.assertEqual(matching, row[draw])
                        self.assertEqual(table.simulate(question, matching), table.reply(witness, draw, question))
                        # The reply is that of the scheme, with the place of its word.
                        word, shown = scheme.reply(found[witness], draw, question)
                        number = scheme.words(question).index(word)
                        self.assertEqual(table.reply(witness, draw, question), ((number,), shown))
            words = tuple(table.word(0, 0, question) for question in range(table.questions))
            with self.assertRaises(NothingExtracted):
                table.extract(table.fill(0, 0), words)

    def test_a_pair_leaks_if_one_of_its_tables_leaks(self):
        leaking, table = made(OPEN), tabled(scheme_of(NOT), [(0,)], 2)
        self.assertIsNotNone(paired(leaking, table).leak)
        self.assertIsNone(paired(table, table).leak)

    def test_cheats_on_false_statements(self):
        for statement in FALSE:
            scheme = scheme_of(statement)
            for deals in (1, 2):
                row = (1, 0)[:deals]
                plan = guess_plan(scheme, row, (scheme.draws - 1,) * deals)
                self.assertEqual(passed_rows(scheme, plan, deals), [row])
                self.assertIsNone(extract_from_plan(scheme, plan, deals))
                for cuts, patience in (((), 0), ((0,), 3), ((1, 2, 0), 1)):
                    length = deals + cuts.count(0)
                    found = trial_count(scheme, plan, deals, length, cuts, patience)
                    self.assertEqual(found, 2 ** (length - deals))

    def test_plans_that_pass_two_rows_give_a_witness_away(self):
        for statement in JOINS[:8] + [NOT, OR, alike(EDGE, EDGE)]:
            scheme = scheme_of(statement)
            for witness in most_witnesses(statement):
                words = tuple(scheme.word(witness, 0, question) for question in range(2))
                contents = scheme.fill(witness, 0)
                plan = {"": (contents, words), "0": (contents, words), "1": (contents, (words[0], None))}
                self.assertEqual(passed_rows(scheme, plan, 2), [(0, 0), (0, 1), (1, 0)])
                self.assertEqual(extract_from_plan(scheme, plan, 2), witness)

    def test_knowers_and_simulators(self):
        for statement in STATEMENTS:
            scheme = scheme_of(statement)
            for witness in most_witnesses(statement):
                for number in (0, 5, scheme.draws - 1, scheme.draws + 3):
                    numbers = (number,) * 6
                    matching = matching_tape([scheme], [witness], numbers, ASKING, 6)
                    self.assertEqual(knower_view([scheme], [witness], numbers, ASKING, 6),
                                     simulator_view([scheme], matching, ASKING, 6))

    def test_views_do_not_depend_on_the_witness(self):
        for statement in TINY:
            scheme = scheme_of(statement)
            found = most_witnesses(statement)
            if scheme.draws <= 12:
                program = Program([(("offer", 0), (), (1,)), (("ask", 0, 0), (2,), (2,)), (("ask", 0, 1), (), (2, 1))])
                along = along_distribution([scheme], program, 4)
                self.assertTrue(simulated_view_distribution([scheme], program, 4, 1) == along)
                for witness in found:
                    self.assertTrue(view_distribution([scheme], [witness], program, 4, 1) == along)

    def test_careful_and_careless_knowers(self):
        for statement in STATEMENTS:
            scheme = scheme_of(statement)
            if scheme.questions != 2:
                continue
            for witness in most_witnesses(statement):
                for careful in (True, False):
                    ledger = Ledger()
                    knower = Knower([scheme], [witness], Tape([7]), [], ledger, Budget(), careful=careful)
                    knower.offer(0)
                    attempt(knower, ("ask", 0, 1), writes=2)
                    knower.restart()
                    knower.ask(0, 0)
                    self.assertEqual(given_away(scheme, ledger, 0), None if careful else witness)

    def test_meetings_end_well(self):
        schedule = [("offer", 0, 2), ("offer", 0, -1), ("deliver", 0, 1), ("deliver", 0, -1), ("deliver", 1, 2),
                    ("crash", 0, 0), ("deliver", 1, -1), ("deliver", 2, 0), ("offer", 0, 0), ("deliver", 2, -1)]
        for statement in STATEMENTS:
            for witness in most_witnesses(statement):
                for count in (1, 3):
                    meeting = Meeting(scheme_of(statement), witness, count, tuple(range(9, 20)), tuple(range(3, 20)))
                    for move in schedule:
                        meeting.run([move])
                        self.assertIn(meeting.verdict, ("open", "yes"))
                    self.assertEqual(meeting.finish(), "yes")
                    self.assertEqual(len(meeting.asker.bits), count)

    def test_a_table_whose_replies_are_not_accepted(self):
        # Nothing keeps an asker from refusing an honest knower of such a table.
        data = (1, 2, ((((0,), ((1,),)),),), ((((0,), (0,)),),))
        meeting = Meeting(made(data), 0, 1, (0,), (0,))
        self.assertEqual(meeting.finish(), "no")
        self.assertIsInstance(meeting.asker, Asker)


if __name__ == "__main__":
    unittest.main()
