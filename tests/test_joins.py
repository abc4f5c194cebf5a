"""Points 87 to 93: joins of schemes, with point 20 for them."""

import itertools
import unittest

from contract import CONTRACT, ContractChecks
from interface import InterfaceChecks
from provedunseen.circuits import CircuitScheme
from provedunseen.colorings import ColorScheme
from provedunseen.errors import (
    BadContents, BadDraw, BadQuestion, BadStatement, BadWitness, LeakyTable, NothingExtracted, TooLarge,
)
from provedunseen.joins import BothScheme, EitherScheme
from provedunseen.likenesses import AlikeScheme
from provedunseen.meaning import holds
from provedunseen.rings import RingScheme
from provedunseen.schemes import Scheme
from provedunseen.statements import alike, circuit, colors, ring
from provedunseen.tables import TableScheme
from provedunseen.tabling import restricted
from samples import (
    AND, EDGE, EMPTY, FALSE_RING, JOINS, NEVER, OR, SMALL, TRUE_RING, all_witnesses, full, path,
)
from table_samples import ALONE, COINS, OPEN, WORDS, made

KINDS = {"ring": RingScheme, "alike": AlikeScheme, "circuit": CircuitScheme, "colors": ColorScheme}
POINT = AlikeScheme(alike(EMPTY, EMPTY))
EDGES = AlikeScheme(alike(EDGE, EDGE))
FALSE = AlikeScheme(alike(EDGE, (2, ())))
# 5, 6 and 7 bits in a word for question 1.
FIVE = CircuitScheme(circuit(3, [("or", 0, 1), ("or", 2, 3), ("or", 4, 4)]))
SIX = CircuitScheme(circuit(3, [("or", 0, 1), ("or", 2, 3), ("or", 4, 4), ("or", 5, 0)]))
SEVEN = CircuitScheme(circuit(4, [("or", 0, 1), ("or", 2, 3), ("or", 4, 4), ("or", 5, 0)]))
LEAKY = restricted(made(OPEN), 0, 2)


def made_of(statement):
    """The scheme of a statement."""
    if statement[0] == "both":
        return BothScheme(made_of(statement[1]), made_of(statement[2]))
    if statement[0] == "either":
        return EitherScheme(made_of(statement[1]), made_of(statement[2]))
    return KINDS[statement[0]](statement)


class Wordy(Scheme):
    """Two questions with so many words, that reveal nothing; the draws are the words."""

    def __init__(self, *many):
        self.questions, self.boxes, self.draws, self.many = 2, 1, max(many), many

    def holds(self, witness):
        return witness == 0

    def fill(self, witness, draw):
        return (draw % 100,)

    def words(self, question):
        return [(number,) for number in range(self.many[question])]

    def word_length(self, question, word):
        return 1 if word else None

    def boxes_for(self, question, word):
        return () if word in self.words(question) else None


class PartsTest(unittest.TestCase, InterfaceChecks):
    def test_interface(self):
        own = {"__init__": "(self, first, second)", **CONTRACT, "__invert__": "(self)",
               "mirrored": "(self, contents)", "mirrored_draw": "(self, draw)"}
        self.check_methods("joins", "BothScheme", own)
        self.check_methods("joins", "EitherScheme", own)
        for kind in (BothScheme, EitherScheme):
            self.assertTrue(issubclass(kind, Scheme))
        self.assertEqual((EitherScheme.FIRST, EitherScheme.SECOND), (0, 1))

    def test_numbers(self):
        ring_scheme, circuit_scheme = RingScheme(TRUE_RING), CircuitScheme(OR)
        for first, second in itertools.product((POINT, EDGES, ring_scheme, circuit_scheme, made(COINS)), repeat=2):
            join = BothScheme(first, second)
            self.assertEqual((join.questions, join.boxes), (2, first.boxes + second.boxes))
            self.assertEqual(join.draws, first.draws * second.draws)
            either = EitherScheme(first, second)
            self.assertEqual((either.questions, either.boxes), (2, first.boxes + second.boxes))
            self.assertEqual(either.draws, 2 * first.draws * second.draws)
            for each in (join, either):
                self.assertIs(each.first, first)
                self.assertIs(each.second, second)

    def test_parts_with_other_numbers_of_questions(self):
        for part in (ColorScheme(colors(EDGE, 2)), ColorScheme(colors(full(3), 3)), made(OPEN), made(ALONE)):
            for kind in (BothScheme, EitherScheme):
                for first, second in ((part, POINT), (POINT, part), (part, part)):
                    with self.assertRaises(BadStatement):
                        kind(first, second)


class PromisesTest(unittest.TestCase, ContractChecks):
    def test_promises(self):
        for statement in JOINS:
            scheme = made_of(statement)
            self.check_scheme(scheme, all_witnesses(statement))
            self.check_values(scheme, lambda value: holds(statement, value))

    def test_errors(self):
        for statement in JOINS[::3]:
            found = all_witnesses(statement)
            if found:
                self.check_errors(made_of(statement), found[-1])

    def test_colors_as_a_part(self):
        statement = colors(path(3), 3)
        scheme = ColorScheme(statement)
        witnesses = all_witnesses(statement)
        pairs = [(u, v) for u in witnesses[:2] for v in all_witnesses(AND)]
        self.check_scheme(BothScheme(scheme, CircuitScheme(AND)), pairs, same=False)
        self.check_scheme(EitherScheme(CircuitScheme(AND), scheme), [(1, u) for u in witnesses[:3]], same=False)
        self.check_scheme(EitherScheme(scheme, scheme), [(0, witnesses[0]), (1, witnesses[1])], same=False)

    def test_one_scheme_as_both_parts(self):
        for part, witness in ((POINT, (0,)), (CircuitScheme(AND), (1, 1))):
            either = EitherScheme(part, part)
            both = BothScheme(either, either)
            self.check_scheme(either, [(0, witness), (1, witness)])
            self.check_scheme(both, [((0, witness), (1, witness)), ((1, witness), (1, witness))])
            self.check_scheme(EitherScheme(BothScheme(part, part), either), [(0, (witness, witness))])

    def test_tables_as_parts(self):
        coins = made(COINS)
        for scheme, witness in (
            (BothScheme(coins, EDGES), (1, (1, 0))), (BothScheme(EDGES, coins), ((0, 1), 1)),
            (EitherScheme(coins, CircuitScheme(OR)), (0, 1)), (EitherScheme(coins, coins), (1, 1)),
        ):
            self.check_words(scheme)
            self.check_knower(scheme, witness)
            self.check_matching(scheme, witness)
            self.check_simulated(scheme)
            self.check_errors(scheme, witness)

    def test_false_parts(self):
        """No contents are accepted for both questions of a join that does not hold."""
        never = CircuitScheme(NEVER)
        for join in (EitherScheme(never, FALSE), BothScheme(POINT, never), EitherScheme(FALSE, FALSE),
                     BothScheme(FALSE, POINT), EitherScheme(never, never)):
            size = join.boxes
            rows = itertools.product((0, 1), repeat=size) if size <= 10 else []
            for contents in rows:
                self.assertLess(len(join.passed(contents)), 2)

    def test_all_contents_of_a_small_join(self):
        for join in (EitherScheme(POINT, POINT), BothScheme(POINT, POINT), EitherScheme(POINT, FALSE)):
            entries = (-1, 0, 1) if join.boxes < 6 else (0, 1)
            full_passes = 0
            for contents in itertools.product(entries, repeat=join.boxes):
                self.check_contents(join, contents)
                full_passes += len(join.passed(contents)) == 2
            self.assertGreater(full_passes, 0)


class BothTest(unittest.TestCase):
    def setUp(self):
        self.first, self.second = RingScheme(TRUE_RING), CircuitScheme(OR)
        self.join = BothScheme(self.first, self.second)
        self.witness = ((0, 1, 2, 3), (1, 0))

    def test_parts_side_by_side(self):
        for draw in range(self.join.draws):
            a, b = divmod(draw, self.second.draws)
            u, v = self.witness
            self.assertEqual(self.join.fill(self.witness, draw), self.first.fill(u, a) + self.second.fill(v, b))
            for question in (0, 1):
                word, shown = self.first.reply(u, a, question)
                other, rest = self.second.reply(v, b, question)
                self.assertEqual(self.join.reply(self.witness, draw, question), (word + other, shown + rest))
                word, shown = self.first.simulate(question, a)
                other, rest = self.second.simulate(question, b)
                self.assertEqual(self.join.simulate(question, draw), (word + other, shown + rest))
                expected = (self.first.find_draw(question, word, shown) * self.second.draws
                            + self.second.find_draw(question, other, rest))
                self.assertEqual(self.join.find_draw(question, word + other, shown + rest), expected)
                for name in ("matching_draw", "original_draw"):
                    expected = (getattr(self.first, name)(u, question, a) * self.second.draws
                                + getattr(self.second, name)(v, question, b))
                    self.assertEqual(getattr(self.join, name)(self.witness, question, draw), expected)

    def test_words_and_boxes(self):
        for question in (0, 1):
            words = [word + other for word in self.first.words(question) for other in self.second.words(question)]
            self.assertEqual(self.join.words(question), words)
            for word in self.first.words(question):
                for other in self.second.words(question):
                    boxes = tuple(self.first.boxes + box for box in self.second.boxes_for(question, other))
                    self.assertEqual(self.join.boxes_for(question, word + other),
                                     self.first.boxes_for(question, word) + boxes)

    def test_word_length(self):
        self.assertEqual([self.join.word_length(0, (0,) * size) for size in range(3)], [0, 0, 0])
        for size in range(10):
            self.assertEqual(self.join.word_length(1, (9,) * size), 6 if size >= 6 else None)
        other = BothScheme(self.second, made(COINS))
        for question, least in ((0, 1), (1, 3)):
            for size in range(6):
                self.assertEqual(other.word_length(question, (0,) * size), least if size >= least else None)

    def test_words_cut_short_or_too_long(self):
        word, shown = self.join.reply(self.witness, 9, 1)
        for other in (word[:-1], word + (0,), (), word[:4], word + word):
            self.assertIsNone(self.join.boxes_for(1, other))
            self.assertIs(self.join.judge(1, other, shown), False)
            self.assertIsNone(self.join.find_draw(1, other, shown))
        for other in (shown[:-1], shown + (1,), ()):
            self.assertIs(self.join.judge(1, word, other), False)
            self.assertIsNone(self.join.find_draw(1, word, other))

    def test_extract(self):
        contents = self.join.fill(self.witness, 50)
        words = tuple(self.join.word(self.witness, 50, question) for question in (0, 1))
        self.assertEqual(self.join.extract(contents, words), self.witness)
        self.assertEqual(self.join.read(contents, words), self.witness)
        with self.assertRaises(NothingExtracted):
            self.join.extract(contents, words[::-1])

    def test_number_of_words(self):
        for first, second, many in ((Wordy(3000, 1), Wordy(1, 3000), 3000), (Wordy(50, 60), Wordy(60, 50), 3000),
                                    (FIVE, SIX, 2048)):
            self.assertEqual(len(BothScheme(first, second).words(1)), many)
        self.assertEqual(len(BothScheme(FIVE, SIX).words(0)), 1)
        for first, second in ((Wordy(1, 3001), POINT), (Wordy(1, 50), Wordy(1, 61)), (SIX, SIX), (FIVE, SEVEN)):
            join = BothScheme(first, second)
            with self.assertRaises(TooLarge):
                join.words(1)
            self.assertEqual(len(join.words(0)), 1)
        join = BothScheme(SIX, SIX)
        word = join.word(((1, 1, 1), (1, 1, 0)), 77, 1)
        self.assertIsNotNone(join.boxes_for(1, word))
        with self.assertRaises(TooLarge):
            join.passed(join.fill(((1, 1, 1), (1, 1, 0)), 77))
        with self.assertRaises(TooLarge):
            BothScheme(join, POINT).words(1)


class EitherTest(unittest.TestCase):
    def setUp(self):
        self.first, self.second = EDGES, CircuitScheme(OR)
        self.join = EitherScheme(self.first, self.second)
        self.witnesses = [(0, (1, 0)), (1, (0, 1)), (1, (1, 1))]

    def draws(self):
        for draw in range(self.join.draws):
            rest, b = divmod(draw, self.second.draws)
            yield draw, rest // self.first.draws, rest % self.first.draws, b

    def asked(self, known, bit, question):
        """The questions of both parts: the simulated part gets the bit."""
        own = bit if question == 0 else 1 - bit
        return (own, bit) if known == 0 else (bit, own)

    def test_fill(self):
        for witness in self.witnesses:
            for draw, bit, a, b in self.draws():
                contents = self.join.fill(witness, draw)
                known, reason = witness
                parts = [contents[:self.first.boxes], contents[self.first.boxes:]]
                part, chosen = (self.first, a) if known == 0 else (self.second, b)
                other, simulated = (self.second, b) if known == 0 else (self.first, a)
                self.assertEqual(parts[known], part.fill(reason, chosen))
                word, shown = other.simulate(bit, simulated)
                expected = [-1] * other.boxes
                for box, content in zip(other.boxes_for(bit, word), shown):
                    expected[box] = content
                self.assertEqual(parts[1 - known], tuple(expected))

    def test_words_of_a_knower(self):
        for known, reason in self.witnesses:
            for draw, bit, a, b in self.draws():
                for question in (0, 1):
                    p, q = self.asked(known, bit, question)
                    if known == 0:
                        expected = (p, q) + self.first.word(reason, a, p) + self.second.simulate(q, b)[0]
                    else:
                        expected = (p, q) + self.first.simulate(p, a)[0] + self.second.word(reason, b, q)
                    self.assertEqual(self.join.word((known, reason), draw, question), expected)
                    self.assertEqual(p == q, question == 0)

    def test_simulate_and_find_draw(self):
        for draw, bit, a, b in self.draws():
            for question in (0, 1):
                p, q = self.asked(0, bit, question)
                word, shown = self.first.simulate(p, a)
                other, rest = self.second.simulate(q, b)
                reply = ((p, q) + word + other, shown + rest)
                self.assertEqual(self.join.simulate(question, draw), reply)
                least = (q * self.first.draws + self.first.find_draw(p, word, shown)) * self.second.draws
                least += self.second.find_draw(q, other, rest)
                self.assertEqual(self.join.find_draw(question, *reply), least)

    def test_matching_and_original_draw(self):
        for known, reason in self.witnesses:
            for draw, bit, a, b in self.draws():
                for question in (0, 1):
                    p, q = self.asked(known, bit, question)
                    if known == 0:
                        expected = (bit, self.first.matching_draw(reason, p, a), b)
                    else:
                        expected = (q, a, self.second.matching_draw(reason, q, b))
                    number = (expected[0] * self.first.draws + expected[1]) * self.second.draws + expected[2]
                    self.assertEqual(self.join.matching_draw((known, reason), question, draw), number)
                    self.assertEqual(self.join.original_draw((known, reason), question, number), draw)

    def test_words_and_boxes(self):
        for question in (0, 1):
            expected = []
            for p in (0, 1):
                q = p if question == 0 else 1 - p
                for word in self.first.words(p):
                    for other in self.second.words(q):
                        expected.append((p, q) + word + other)
                        boxes = tuple(self.first.boxes + box for box in self.second.boxes_for(q, other))
                        self.assertEqual(self.join.boxes_for(question, expected[-1]),
                                         self.first.boxes_for(p, word) + boxes)
            self.assertEqual(self.join.words(question), expected)
            self.assertEqual(expected, sorted(expected))

    def test_word_length(self):
        lengths = {(0, 0): 2, (1, 1): 4, (0, 1): 4, (1, 0): 2}
        for question in (0, 1):
            for size in range(7):
                for lead in itertools.product((-1, 0, 1, 2), repeat=min(size, 2)):
                    word = lead + (9,) * (size - len(lead))
                    good = lead in lengths and (lead[0] != lead[1]) == question and size >= lengths[lead]
                    self.assertEqual(self.join.word_length(question, word), lengths[lead] if good else None)

    def test_words_cut_short_or_too_long(self):
        for witness in self.witnesses:
            for question in (0, 1):
                word, shown = self.join.reply(witness, 11, question)
                for other in (word[:-1], word + (0,), (), word[:1], word[:2] + word, (2,) + word[1:],
                              (1 - word[0],) + word[1:], (-1, -1) + word[2:], word[1::-1] + word[2:] + (1,)):
                    self.assertIsNone(self.join.boxes_for(question, other))
                    self.assertIs(self.join.judge(question, other, shown), False)
                    self.assertIsNone(self.join.find_draw(question, other, shown))
                self.assertIs(self.join.judge(1 - question, word, shown), False)
                for other in (shown[:-1], shown + (1,), ()):
                    self.assertIs(self.join.judge(question, word, other), False)

    def test_extract(self):
        for witness in self.witnesses:
            for draw in range(self.join.draws):
                contents = self.join.fill(witness, draw)
                words = tuple(self.join.word(witness, draw, question) for question in (0, 1))
                self.assertEqual(self.join.extract(contents, words), witness)
                self.assertEqual(self.join.read(contents, words), witness)

    def test_number_of_words(self):
        for first, second, many in ((Wordy(1500, 1), Wordy(1, 1500), (3000, 1500 ** 2 + 1)),
                                    (Wordy(1, 2), Wordy(1000, 1000), (3000, 3000)), (FIVE, FIVE, (1025, 64))):
            join = EitherScheme(first, second)
            for question in (0, 1):
                if many[question] <= 3000:
                    self.assertEqual(len(join.words(question)), many[question])
                else:
                    with self.assertRaises(TooLarge):
                        join.words(question)
        for first, second in ((Wordy(1500, 1), Wordy(1, 1501)), (Wordy(3000, 1), POINT), (SIX, SIX)):
            with self.assertRaises(TooLarge):
                EitherScheme(first, second).words(0)
        self.assertEqual(len(EitherScheme(SIX, SIX).words(1)), 128)
        with self.assertRaises(TooLarge):
            EitherScheme(POINT, EitherScheme(SIX, SIX)).words(1)

    def test_example(self):
        join = EitherScheme(POINT, POINT)
        self.assertEqual((join.boxes, join.draws), (4, 2))
        self.assertEqual(join.fill((0, (0,)), 1), (0, 0, -1, 0))
        self.assertEqual([join.word((0, (0,)), 1, question) for question in (0, 1)], [(1, 1), (0, 1)])
        self.assertEqual(join.boxes_for(0, (1, 1)), (1, 3))
        self.assertEqual(join.boxes_for(1, (0, 1)), (0, 3))
        self.assertEqual(join.fill((1, (0,)), 1), (-1, 0, 0, 0))
        self.assertEqual([join.word((1, (0,)), 1, question) for question in (0, 1)], [(1, 1), (1, 0)])


class GoingThroughTest(unittest.TestCase):
    """An error that a method of a part raises goes through."""

    def test_leaks(self):
        either = EitherScheme(LEAKY, POINT)
        for draw in range(either.draws):
            self.assertEqual(len(either.fill((0, 1), draw)), 4)
            for question in (0, 1):
                for call in (
                    lambda: either.simulate(question, draw), lambda: either.word((1, (0,)), draw, question),
                    lambda: either.fill((1, (0,)), draw), lambda: either.matching_draw((0, 1), question, draw),
                    lambda: either.original_draw((0, 1), question, draw),
                    lambda: either.simulated_distribution(question), lambda: either.reply((1, (0,)), draw, question),
                ):
                    with self.assertRaises(LeakyTable):
                        call()
                # The known part alone is asked for a draw.
                self.assertEqual(either.matching_draw((1, (0,)), 0, draw), draw)
                self.assertIsNotNone(either.reply((0, 1), draw, question))
        both = BothScheme(POINT, LEAKY)
        for call in (lambda: both.simulate(0, 0), lambda: both.matching_draw(((0,), 1), 0, 0),
                     lambda: both.original_draw(((0,), 1), 0, 0), lambda: both.simulated_distribution(1)):
            with self.assertRaises(LeakyTable):
                call()

    def test_errors_of_the_join_come_first(self):
        for join, witness in ((EitherScheme(LEAKY, LEAKY), (1, 1)), (BothScheme(LEAKY, LEAKY), (1, 0))):
            for question in (-1, 2):
                with self.assertRaises(BadQuestion):
                    join.simulate(question, -1)
                with self.assertRaises(BadQuestion):
                    join.matching_draw((5, 5), question, -1)
            for wrong in (0, (1,), (1, 5), (5, 1), (0, 1, 1), ((0,), (0,))):
                with self.assertRaises(BadWitness):
                    join.matching_draw(wrong, 0, -1)
                with self.assertRaises(BadWitness):
                    join.fill(wrong, -1)
            for draw in (-1, join.draws):
                with self.assertRaises(BadDraw):
                    join.simulate(0, draw)
                with self.assertRaises(BadDraw):
                    join.matching_draw(witness, 1, draw)

    def test_nothing_is_read_off_tables(self):
        coins = made(COINS)
        for join, witness in ((BothScheme(POINT, coins), ((0,), 1)), (EitherScheme(coins, POINT), (0, 1))):
            contents = join.fill(witness, 0)
            words = tuple(join.word(witness, 0, question) for question in (0, 1))
            with self.assertRaises(NothingExtracted):
                join.extract(contents, words)
            with self.assertRaises(NothingExtracted):
                join.read(contents, words)
        join = EitherScheme(coins, POINT)
        words = tuple(join.word((1, (0,)), 0, question) for question in (0, 1))
        self.assertEqual(join.extract(join.fill((1, (0,)), 0), words), (1, (0,)))

    def test_replies_that_are_not_accepted(self):
        """A table may find a draw for a reply that it does not accept."""
        table = TableScheme(1, 1, ((((0,), ()),), (((0,), ((0,),)),)), ((((0,), (0, 0)),),))
        join = BothScheme(table, table)
        self.assertEqual(join.find_draw(0, (0, 0), (0, 0)), 0)
        self.assertIs(join.judge(0, (0, 0), (0, 0)), False)
        self.assertIsNone(BothScheme(made(WORDS), table).find_draw(0, (0, 0), (2, 0, 0)))


class MirrorTest(unittest.TestCase):
    def pairs(self):
        parts = [POINT, EDGES, CircuitScheme(AND), made(COINS)]
        reasons = [(0,), (1, 0), (1, 1), 1]
        for (first, u), (second, v) in itertools.product(zip(parts, reasons), repeat=2):
            yield BothScheme(first, second), [((u, v), (v, u))]
            yield EitherScheme(first, second), [((0, u), (1, u)), ((1, v), (0, v))]
        inner = EitherScheme(EDGES, POINT)
        yield BothScheme(inner, CircuitScheme(AND)), [(((1, (0,)), (1, 1)), ((1, 1), (1, (0,))))]

    def test_exchanged(self):
        for join, _ in self.pairs():
            other = ~join
            self.assertIs(type(other), type(join))
            self.assertIs(other.first, join.second)
            self.assertIs(other.second, join.first)
            self.assertEqual((other.questions, other.boxes, other.draws), (2, join.boxes, join.draws))
            self.assertIs((~other).first, join.first)

    def test_mirrored_knower(self):
        for join, witnesses in self.pairs():
            for draw in range(join.draws):
                mirrored = join.mirrored_draw(draw)
                self.assertEqual((~join).mirrored_draw(mirrored), draw)
                for witness, other in witnesses:
                    contents = join.fill(witness, draw)
                    self.assertEqual(join.mirrored(contents), (~join).fill(other, mirrored))
                    self.assertEqual((~join).mirrored(join.mirrored(contents)), contents)
            self.assertEqual(sorted(map(join.mirrored_draw, range(join.draws))), list(range(join.draws)))

    def test_draws_by_hand(self):
        both = BothScheme(EDGES, RingScheme(ring(full(3))))
        self.assertEqual([both.mirrored_draw(draw) for draw in (0, 1, 5, 6, 11)], [0, 2, 10, 1, 11])
        either = EitherScheme(EDGES, RingScheme(ring(full(3))))
        self.assertEqual([either.mirrored_draw(draw) for draw in (0, 1, 6, 12, 13, 23)], [0, 2, 1, 12, 14, 23])
        self.assertEqual(BothScheme(POINT, EDGES).mirrored(tuple(range(7))), (2, 3, 4, 5, 6, 0, 1))

    def test_errors(self):
        for join, _ in self.pairs():
            for contents in ((), (0,) * (join.boxes - 1), (0,) * (join.boxes + 1)):
                with self.assertRaises(BadContents):
                    join.mirrored(contents)
            for draw in (-1, join.draws, join.draws + 3):
                with self.assertRaises(BadDraw):
                    join.mirrored_draw(draw)


class ManyPartsTest(unittest.TestCase, ContractChecks):
    def test_twenty_schemes(self):
        for kind, grow in (
            (BothScheme, lambda witness: (witness, (0, 1))), (EitherScheme, lambda witness: (0, witness)),
        ):
            part = CircuitScheme(OR)
            join, witness = part, (0, 1)
            for _ in range(19):
                join, witness = kind(join, part), grow(witness)
            self.assertTrue(join.holds(witness))
            for draw in (0, 12345678901234567 % join.draws, join.draws - 1):
                contents = join.fill(witness, draw)
                words = tuple(join.word(witness, draw, question) for question in (0, 1))
                self.assertEqual(join.extract(contents, words), witness)
                for question in (0, 1):
                    reply = join.reply(witness, draw, question)
                    matching = join.matching_draw(witness, question, draw)
                    self.assertEqual(join.simulate(question, matching), reply)
                    self.assertEqual(join.original_draw(witness, question, matching), draw)
                    self.assertEqual(join.simulate(question, join.find_draw(question, *reply)), reply)
            with self.assertRaises(TooLarge):
                join.words(1)

    def test_lists_are_new(self):
        for join in (BothScheme(POINT, EDGES), EitherScheme(CircuitScheme(OR), RingScheme(FALSE_RING)),
                     EitherScheme(AlikeScheme(SMALL), POINT)):
            for question in (0, 1):
                words = join.words(question)
                many = len(words)
                words.clear()
                self.assertEqual(len(join.words(question)), many)


if __name__ == "__main__":
    unittest.main()
