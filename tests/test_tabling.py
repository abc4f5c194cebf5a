"""Points 48 to 50: tables made of others."""

import itertools
import unittest

from interface import InterfaceChecks
from provedunseen.circuits import CircuitScheme
from provedunseen.colorings import ColorScheme
from provedunseen.errors import BadQuestion, BadTable, BadWitness, TooLarge
from provedunseen.joins import BothScheme, EitherScheme
from provedunseen.leaks import first_failure
from provedunseen.likenesses import AlikeScheme
from provedunseen.rings import RingScheme
from provedunseen.schemes import Scheme
from provedunseen.statements import alike, circuit, colors, ring
from provedunseen.tables import TableScheme
from provedunseen.tabling import paired, restricted, tabled
from samples import EDGE, EMPTY, STAR, all_witnesses, full
from table_samples import ALONE, COINS, MANY, OPEN, WORDS, full_table, leaks_of, made


def data_of(table):
    return (table.boxes, table.signs, table.rules, table.fillings)


def sized(boxes=1, signs=1, rules=(1,), witnesses=1, draws=1):
    """A table with these numbers, that accepts nothing."""
    entries = tuple(tuple(((), ()) for _ in range(many)) for many in rules)
    filling = ((0,) * boxes, (0,) * len(rules))
    return TableScheme(boxes, signs, entries, ((filling,) * draws,) * witnesses)


class RestrictedTest(unittest.TestCase, InterfaceChecks):
    def test_interface(self):
        self.check_functions("tabling", {
            "restricted": "(table, *questions)", "paired": "(left, right)", "tabled": "(scheme, witnesses, signs)",
        })

    def test_restricted(self):
        for data in MANY:
            many = len(data[2])
            for size in (1, 2, 6):
                for questions in list(itertools.product(range(many), repeat=size))[:40]:
                    table = restricted(made(data), *questions)
                    self.assertIsInstance(table, TableScheme)
                    boxes, signs, rules, fillings = data
                    self.assertEqual(data_of(table), (
                        boxes, signs, tuple(rules[question] for question in questions),
                        tuple(tuple((contents, tuple(choices[question] for question in questions))
                                    for contents, choices in row) for row in fillings),
                    ))
                    self.assertEqual(table.leak is None, all(
                        leak[0] not in questions for leak in leaks_of(data)))

    def test_same_question_twice(self):
        table = restricted(made(OPEN), 2, 0, 2)
        self.assertEqual(table.questions, 3)
        self.assertEqual(table.reply(1, 0, 0), table.reply(1, 0, 2))
        self.assertEqual(table.reply(1, 0, 0), made(OPEN).reply(1, 0, 2))
        self.assertEqual(table.leak[0], 0)
        self.assertIsNone(restricted(made(OPEN), 1, 0).leak)

    def test_errors_in_their_order(self):
        table = made(COINS)
        for questions in ((2,), (-1,), (0, 1, 2), (0, 9, 1), (0, 0, 0, 0, 0, 0, 0, -1), (2,) * 9):
            with self.assertRaises(BadQuestion):
                restricted(table, *questions)
        for questions in ((), (0,) * 7, (0, 1) * 5):
            with self.assertRaises(BadTable):
                restricted(table, *questions)
        self.assertEqual(restricted(table, *(0, 1) * 3).questions, 6)


class PairedTest(unittest.TestCase):
    def check_pair(self, left, right):
        """Check the table of the two, part by part."""
        table = paired(left, right)
        self.assertEqual((table.boxes, table.signs), (left.boxes + right.boxes, max(left.signs, right.signs)))
        self.assertEqual(table.questions, left.questions * right.questions)
        self.assertEqual(table.draws, left.draws * right.draws)
        self.assertEqual(len(table.fillings), len(left.fillings) * len(right.fillings))
        for a, b in itertools.product(range(left.questions), range(right.questions)):
            question = a * right.questions + b
            self.assertEqual(len(table.rules[question]), len(left.rules[a]) * len(right.rules[b]))
            for k, m in itertools.product(range(len(left.rules[a])), range(len(right.rules[b]))):
                revealed, accepted = table.rules[question][k * len(right.rules[b]) + m]
                behind = tuple(left.boxes + box for box in right.rules[b][m][0])
                self.assertEqual(revealed, left.rules[a][k][0] + behind)
                self.assertEqual(set(accepted), {some + other for some in left.rules[a][k][1]
                                                 for other in right.rules[b][m][1]})
            self.check_replies(table, left, right, a, b)
        self.assertIs(table.leak is None, left.leak is None and right.leak is None)

    def check_replies(self, table, left, right, a, b):
        question = a * right.questions + b
        for u, v in itertools.product(range(len(left.fillings)), range(len(right.fillings))):
            for d, e in itertools.product(range(left.draws), range(right.draws)):
                witness, draw = u * len(right.fillings) + v, d * right.draws + e
                self.assertEqual(table.fill(witness, draw), left.fill(u, d) + right.fill(v, e))
                (choice,), shown = left.reply(u, d, a)
                (other,), rest = right.reply(v, e, b)
                expected = ((choice * len(right.rules[b]) + other,), shown + rest)
                self.assertEqual(table.reply(witness, draw, question), expected)

    def test_paired(self):
        tried = leaking = 0
        for first, second in itertools.product(MANY[::3], MANY[::4]):
            left, right = made(first), made(second)
            try:
                table = paired(left, right)
            except BadTable:
                continue
            self.check_pair(left, right)
            tried += 1
            leaking += table.leak is not None
        self.assertGreater(tried, 50)
        self.assertGreater(leaking, 10)
        self.assertGreater(tried - leaking, 10)

    def test_table_with_itself(self):
        self.check_pair(made(COINS), made(COINS))
        self.check_pair(made(ALONE), made(OPEN))

    def test_at_the_bounds(self):
        for left, right in (
            (sized(boxes=4), sized(boxes=5)), (sized(boxes=8), sized(boxes=1)), (sized(rules=(1,) * 6), sized()),
            (sized(rules=(1, 1)), sized(rules=(1, 1, 1))), (sized(rules=(3, 1)), sized(rules=(1, 4))),
            (sized(rules=(12,)), sized()), (sized(witnesses=2), sized(witnesses=3)), (sized(), sized(witnesses=6)),
            (sized(draws=4), sized(draws=6)), (sized(draws=1), sized(draws=24)), (sized(signs=4), sized(signs=1)),
        ):
            self.check_pair(left, right)

    def test_beyond_the_bounds(self):
        for left, right in (
            (sized(boxes=5), sized(boxes=5)), (sized(boxes=9), sized(boxes=1)), (sized(boxes=9), sized(boxes=9)),
            (sized(rules=(1,) * 4), sized(rules=(1, 1))), (sized(rules=(1,) * 6), sized(rules=(1,) * 6)),
            (sized(rules=(1, 13 // 2)), sized(rules=(2, 1, 3))), (sized(rules=(12,)), sized(rules=(2,))),
            (sized(rules=(4, 1)), sized(rules=(1, 4))), (sized(witnesses=4), sized(witnesses=2)),
            (sized(witnesses=6), sized(witnesses=6)), (sized(draws=5), sized(draws=5)),
            (sized(draws=24), sized(draws=2)), (sized(draws=24), sized(draws=24)),
        ):
            with self.assertRaises(BadTable):
                paired(left, right)
        with self.assertRaises(BadTable):
            paired(made(full_table()), made(full_table()))


class Plain(Scheme):
    """A scheme with so many of all: each question has words of one integer, that reveal the first boxes."""

    def __init__(self, questions=1, boxes=1, draws=1, words=1, revealed=1):
        self.questions, self.boxes, self.draws = questions, boxes, draws
        self.many, self.revealed = words, revealed

    def holds(self, witness):
        return witness in (3, 5)

    def fill(self, witness, draw):
        return (draw % 2,) * (self.boxes - 1) + (witness - 4,)

    def word(self, witness, draw, question):
        return ((draw + question) % self.many,)

    def words(self, question):
        return [(number,) for number in range(self.many)]

    def boxes_for(self, question, word):
        return tuple(range(self.revealed)) if word in self.words(question) else None

    def judge(self, question, word, shown):
        return sum(shown) % 2 == word[0] % 2


class TabledTest(unittest.TestCase):
    def check_tabled(self, scheme, witnesses, signs):
        table = tabled(scheme, list(witnesses), signs)
        self.assertIsInstance(table, TableScheme)
        self.assertEqual((table.boxes, table.signs), (scheme.boxes, signs))
        self.assertEqual((table.questions, table.draws), (scheme.questions, scheme.draws))
        self.assertEqual(len(table.fillings), len(witnesses))
        for question in range(scheme.questions):
            words = scheme.words(question)
            self.assertEqual(len(table.rules[question]), len(words))
            for word, (revealed, accepted) in zip(words, table.rules[question]):
                self.assertEqual(revealed, scheme.boxes_for(question, word))
                rows = itertools.product(range(signs), repeat=len(revealed))
                self.assertEqual(list(accepted), [row for row in rows if scheme.judge(question, word, row)])
        for place, witness in enumerate(witnesses):
            for draw in range(scheme.draws):
                contents = tuple(0 if content == -1 else content for content in scheme.fill(witness, draw))
                self.assertEqual(table.fill(place, draw), contents)
                for question in range(scheme.questions):
                    ((choice,), _) = table.reply(place, draw, question)
                    self.assertEqual(scheme.words(question)[choice], scheme.word(witness, draw, question))
        return table

    def test_small_schemes(self):
        triangle = colors(full(3), 3)
        statement = circuit(2, [("or", 0, 1)])
        edges = alike(EDGE, EDGE)
        for scheme, witnesses, signs in (
            (AlikeScheme(edges), all_witnesses(edges), 2), (AlikeScheme(edges), all_witnesses(edges), 4),
            (ColorScheme(triangle), all_witnesses(triangle), 3), (ColorScheme(triangle), all_witnesses(triangle), 4),
            (CircuitScheme(statement), all_witnesses(statement), 2), (RingScheme(ring(full(3))), [(0, 1, 2)], 3),
        ):
            table = self.check_tabled(scheme, witnesses, signs)
            self.assertIsNone(table.leak)
            self.assertIsNone(first_failure(table))

    def test_joins_and_tables(self):
        point = AlikeScheme(alike(EMPTY, EMPTY))
        table = self.check_tabled(EitherScheme(point, point), [(0, (0,)), (1, (0,))], 1)
        self.assertIsNone(table.leak)
        self.assertEqual(table.fill(0, 1), (0, 0, 0, 0))
        self.check_tabled(BothScheme(point, AlikeScheme(alike(EDGE, EDGE))), [((0,), (1, 0))], 2)
        for data in (COINS, OPEN, WORDS):
            table = self.check_tabled(made(data), range(len(data[3])), data[1])
            self.assertEqual(data_of(table), data)

    def test_blanks_become_0(self):
        scheme = Plain(draws=2, boxes=3)
        table = self.check_tabled(scheme, [3, 5, 3], 2)
        self.assertEqual(table.fillings[0][1][0], (1, 1, 0))
        self.assertEqual(table.fillings[1][1][0], (1, 1, 1))

    def test_at_the_bounds(self):
        self.check_tabled(Plain(questions=6, boxes=9, draws=24, words=12, revealed=4), [3] * 6, 4)
        self.check_tabled(Plain(boxes=9, revealed=9), [5], 2)
        self.check_tabled(Plain(boxes=9, revealed=6), [5], 3)

    def test_signs_and_no_witness(self):
        too_large = Plain(questions=7, boxes=10, draws=25, words=13)
        for signs in (-1, 0, 5, 9):
            for scheme in (Plain(), too_large):
                for witnesses in ([3], [9], [], [3] * 7):
                    with self.assertRaises(BadTable):
                        tabled(scheme, witnesses, signs)
        for scheme in (Plain(), too_large):
            with self.assertRaises(BadTable):
                tabled(scheme, [], 2)

    def test_too_large(self):
        for scheme, witnesses, signs in (
            (Plain(boxes=10), [3], 2), (Plain(questions=7), [3], 2), (Plain(draws=25), [3], 2),
            (Plain(), [3] * 7, 2), (Plain(words=13), [3], 2), (Plain(boxes=9, revealed=5), [3], 4),
            (Plain(boxes=9, revealed=7), [3], 3), (Plain(words=13), [9], 2), (Plain(draws=25), [5], 1),
            (Plain(), [9] * 7, 2), (Plain(boxes=9, revealed=5), [9], 4), (RingScheme(ring(STAR)), [0], 2),
        ):
            with self.assertRaises(TooLarge):
                tabled(scheme, witnesses, signs)

    def test_wrong_witnesses(self):
        for witnesses in ([4], [3, 5, 4], [5, (3,)], [()], [5, 5, 5, 5, 5, 6]):
            for signs in (1, 2):
                with self.assertRaises(BadWitness):
                    tabled(Plain(), witnesses, signs)

    def test_contents_that_are_too_great(self):
        with self.assertRaises(BadTable):
            tabled(Plain(), [3, 5], 1)
        with self.assertRaises(BadTable):
            tabled(ColorScheme(colors(full(3), 3)), [(0, 1, 2)], 2)

    def test_list_stays(self):
        witnesses = [3, 5]
        tabled(Plain(), witnesses, 2)
        self.assertEqual(witnesses, [3, 5])


if __name__ == "__main__":
    unittest.main()
