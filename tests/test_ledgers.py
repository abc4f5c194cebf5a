"""Points 96 to 101: budgets, tapes, ledgers and simulated ledgers."""

import random
import unittest

from interface import InterfaceChecks, methods_in
from provedunseen.errors import AlreadySealed, BadBox, BadContents, Crash, NotSealed, TapeEnd
from provedunseen.ledgers import Budget, Ledger, SimulatedLedger, Tape

LETTERS = [
    ("sealed", 0, 0), ("ask", 0, 1), ("sealed", 1, 2), ("reply", 0, 1, (0, 1)), ("none", 7), ("ask", 1, 0),
    ("reply", 1, 0, ()), ("ask", 0, 1), ("reply", 0, 1, (0, 1)), ("none", -1),
]


def told(ledger, deals):
    """All that a ledger tells about these deals."""
    return (ledger.sealed, list(ledger.letters),
            [(ledger.is_sealed(deal), ledger.shown(deal), ledger.visible(deal)) for deal in deals])


class BudgetTest(unittest.TestCase, InterfaceChecks):
    def test_interface(self):
        self.check_methods("ledgers", "Budget", {"__init__": "(self)", "allow": "(self, writes)", "spend": "(self)"})

    def test_no_limit(self):
        budget = Budget()
        self.assertIsNone(budget.left)
        for _ in range(50):
            self.assertIsNone(budget.spend())
            self.assertIsNone(budget.left)

    def test_each_limit(self):
        for writes in (0, 1, 2, 5):
            budget = Budget()
            self.assertIsNone(budget.allow(writes))
            for left in reversed(range(writes)):
                self.assertIsNone(budget.spend())
                self.assertEqual(budget.left, left)
            for _ in range(3):
                with self.assertRaises(Crash):
                    budget.spend()
                self.assertEqual(budget.left, 0)

    def test_allow_again(self):
        budget = Budget()
        budget.allow(3)
        budget.spend()
        budget.allow(3)
        self.assertEqual(budget.left, 3)
        budget.allow(0)
        self.assertEqual(budget.left, 0)
        budget.allow(None)
        self.assertIsNone(budget.left)
        budget.spend()
        self.assertIsNone(budget.left)


class TapeTest(unittest.TestCase, InterfaceChecks):
    def test_interface(self):
        self.check_methods("ledgers", "Tape", {"__init__": "(self, numbers)", "take": "(self, size)"})

    def test_remainders(self):
        tape = Tape([0, 7, 7, 10 ** 30 + 5, 3])
        self.assertEqual(tape.place, 0)
        self.assertEqual(
            [(tape.take(size), tape.place) for size in (1, 7, 5, 10, 4)],
            [(0, 1), (0, 2), (2, 3), (5, 4), (3, 5)],
        )

    def test_end(self):
        for numbers in ([], [4], [4, 5]):
            tape = Tape(numbers)
            for number in numbers:
                self.assertEqual(tape.take(9), number)
            for _ in range(2):
                with self.assertRaises(TapeEnd):
                    tape.take(9)
                self.assertEqual(tape.place, len(numbers))

    def test_the_list_is_copied(self):
        numbers = [1, 2]
        tape = Tape(numbers)
        numbers[0] = 8
        numbers.extend([3, 4])
        self.assertEqual([tape.take(10), tape.take(10)], [1, 2])
        with self.assertRaises(TapeEnd):
            tape.take(10)
        self.assertEqual(numbers, [8, 2, 3, 4])


class LedgerTest(unittest.TestCase, InterfaceChecks):
    def test_interface(self):
        own = {"__init__": "(self)", "is_sealed": "(self, deal)", "shown": "(self, deal)", "visible": "(self, deal)",
               "letters_of": "(self, deal)", "seal": "(self, deal, contents)", "reveal": "(self, deal, boxes)",
               "post": "(self, letter)"}
        self.check_methods("ledgers", "Ledger", own)
        self.assertIn("sealed", methods_in("ledgers", "Ledger"))
        self.assertIsInstance(Ledger.sealed, property)

    def test_new_ledger(self):
        ledger = Ledger()
        self.assertEqual(told(ledger, [0, -1, 5]), (0, [], [(False, (), ())] * 3))

    def test_seal(self):
        for ledger in (Ledger(), SimulatedLedger()):
            for many, (deal, contents) in enumerate([(0, (3, -1, 99)), (5, ()), (-2, (0,)), (10 ** 9, (7, 7))], 1):
                self.assertIsNone(ledger.seal(deal, contents))
                self.assertEqual(ledger.sealed, many)
                self.assertIs(ledger.is_sealed(deal), True)
                self.assertEqual(ledger.shown(deal), ())
                self.assertEqual(ledger.visible(deal), (-1,) * len(contents))
            self.assertIs(ledger.is_sealed(1), False)

    def test_sealed_already(self):
        for ledger in (Ledger(), SimulatedLedger()):
            ledger.seal(3, (1, 2))
            ledger.reveal(3, (1,))
            before = told(ledger, [3])
            for contents in ((1, 2), (), (5,), (100,), (-2, 0)):
                with self.assertRaises(AlreadySealed):
                    ledger.seal(3, contents)
            self.assertEqual(told(ledger, [3]), before)

    def test_contents_out_of_range(self):
        for ledger in (Ledger(), SimulatedLedger()):
            for contents in ((-2,), (100,), (0, 0, 100), (99, -1, -2), (10 ** 20,)):
                with self.assertRaises(BadContents):
                    ledger.seal(0, contents)
                self.assertEqual(told(ledger, [0]), (0, [], [(False, (), ())]))
            ledger.seal(0, (-1, 99))
            ledger.reveal(0, (0, 1))
            self.assertEqual(ledger.shown(0), ((0, -1), (1, 99)))

    def test_reveal_in_any_order_and_again(self):
        for boxes in ((0, 2), (2, 0), (2, 2, 0, 2), (0, 0, 2, 0)):
            for ledger in (Ledger(), SimulatedLedger()):
                ledger.seal(1, (5, 6, 7))
                for _ in range(2):
                    self.assertIsNone(ledger.reveal(1, boxes))
                    self.assertEqual(ledger.shown(1), ((0, 5), (2, 7)))
                    self.assertEqual(ledger.visible(1), (5, -1, 7))
                ledger.reveal(1, ())
                self.assertEqual(ledger.visible(1), (5, -1, 7))
                ledger.reveal(1, (1,))
                self.assertEqual(ledger.shown(1), ((0, 5), (1, 6), (2, 7)))

    def test_wrong_boxes_change_nothing(self):
        for ledger in (Ledger(), SimulatedLedger()):
            ledger.seal(0, (5, 6))
            ledger.seal(1, ())
            before = told(ledger, [0, 1, 2])
            for deal, boxes in ((0, (2,)), (0, (-1,)), (0, (0, 1, 2)), (0, (0, -2)), (1, (0,)), (0, (99, 0))):
                with self.assertRaises(BadBox):
                    ledger.reveal(deal, boxes)
            for boxes in ((), (0,), (-1,)):
                with self.assertRaises(NotSealed):
                    ledger.reveal(2, boxes)
            self.assertEqual(told(ledger, [0, 1, 2]), before)
            ledger.reveal(1, ())
            self.assertEqual(told(ledger, [0, 1, 2]), before)

    def test_deals_do_not_meet(self):
        ledger = Ledger()
        ledger.seal(0, (1, 2))
        ledger.seal(1, (1, 2))
        ledger.reveal(1, (0,))
        self.assertEqual((ledger.shown(0), ledger.shown(1)), ((), ((0, 1),)))

    def test_random_reveals(self):
        chance = random.Random(4)
        for _ in range(60):
            contents = tuple(chance.randint(-1, 99) for _ in range(chance.randint(0, 6)))
            ledger = chance.choice((Ledger, SimulatedLedger))()
            ledger.seal(0, contents)
            known = set()
            for _ in range(4):
                boxes = tuple(chance.choice(range(len(contents))) for _ in range(chance.randint(0, 4)) if contents)
                ledger.reveal(0, boxes)
                known |= set(boxes)
                self.assertEqual(ledger.shown(0), tuple((box, contents[box]) for box in sorted(known)))
                visible = tuple(content if box in known else -1 for box, content in enumerate(contents))
                self.assertEqual(ledger.visible(0), visible)

    def test_letters(self):
        for ledger in (Ledger(), SimulatedLedger()):
            for letter in LETTERS:
                self.assertIsNone(ledger.post(letter))
            self.assertEqual(ledger.letters, LETTERS)
            self.assertIs(type(ledger.letters), list)
            for deal in (0, 1, 7, -1, 2):
                self.assertEqual(list(ledger.letters_of(deal)), [letter for letter in LETTERS if letter[1] == deal])
            first = None
            for letter in ledger.letters_of(0):
                first = letter
                break
            self.assertEqual(first, LETTERS[0])
            self.assertEqual(ledger.sealed, 0)


class SimulatedLedgerTest(unittest.TestCase, InterfaceChecks):
    def test_interface(self):
        own = {"__init__": "(self)", "seal_blank": "(self, deal, boxes)",
               "reveal_as": "(self, deal, boxes, contents)"}
        self.check_methods("ledgers", "SimulatedLedger", own)
        self.assertEqual(SimulatedLedger.__bases__, (Ledger,))

    def test_seal_blank(self):
        ledger = SimulatedLedger()
        for many, (deal, boxes) in enumerate([(0, 3), (4, 0), (-1, 1)], 1):
            self.assertIsNone(ledger.seal_blank(deal, boxes))
            self.assertEqual((ledger.sealed, ledger.is_sealed(deal)), (many, True))
            self.assertEqual((ledger.shown(deal), ledger.visible(deal)), ((), (-1,) * boxes))
        for deal in (0, 4, -1):
            with self.assertRaises(AlreadySealed):
                ledger.seal_blank(deal, 2)
            with self.assertRaises(AlreadySealed):
                ledger.seal(deal, (100,))
        ledger.seal(9, (1,))
        with self.assertRaises(AlreadySealed):
            ledger.seal_blank(9, 1)
        self.assertEqual(ledger.visible(0), (-1, -1, -1))

    def test_contents_are_given_once(self):
        ledger = SimulatedLedger()
        ledger.seal_blank(0, 4)
        self.assertIsNone(ledger.reveal_as(0, (2, 0), (7, 8)))
        self.assertEqual(ledger.shown(0), ((0, 8), (2, 7)))
        self.assertEqual(ledger.visible(0), (8, -1, 7, -1))
        # The same content may be given again, also twice at once.
        ledger.reveal_as(0, (0, 1, 1, 2), (8, -1, -1, 7))
        self.assertEqual(ledger.shown(0), ((0, 8), (1, -1), (2, 7)))
        ledger.reveal_as(0, (), ())
        before = told(ledger, [0])
        for boxes, contents in (((0,), (7,)), ((3, 0), (1, 9)), ((3, 3), (1, 2)), ((1,), (0,)), ((2, 3), (8, 8))):
            with self.assertRaises(AlreadySealed):
                ledger.reveal_as(0, boxes, contents)
            self.assertEqual(told(ledger, [0]), before)
        ledger.reveal_as(0, (3,), (5,))
        self.assertEqual(ledger.visible(0), (8, -1, 7, 5))

    def test_contents_that_were_sealed(self):
        ledger = SimulatedLedger()
        ledger.seal(0, (1, 2))
        with self.assertRaises(AlreadySealed):
            ledger.reveal_as(0, (0, 1), (1, 3))
        self.assertEqual(ledger.shown(0), ())
        ledger.reveal_as(0, (1,), (2,))
        self.assertEqual(ledger.shown(0), ((1, 2),))

    def test_reveal_makes_blanks(self):
        ledger = SimulatedLedger()
        ledger.seal_blank(0, 3)
        ledger.reveal(0, (1, 1))
        self.assertEqual(ledger.shown(0), ((1, -1),))
        with self.assertRaises(AlreadySealed):
            ledger.reveal_as(0, (1,), (0,))
        ledger.reveal_as(0, (1, 2), (-1, 4))
        ledger.reveal(0, (2, 1))
        self.assertEqual(ledger.shown(0), ((1, -1), (2, 4)))
        # What reveal has refused has got no content.
        with self.assertRaises(BadBox):
            ledger.reveal(0, (0, 3))
        ledger.reveal_as(0, (0,), (6,))
        self.assertEqual(ledger.visible(0), (6, -1, 4))

    def test_errors_of_reveal_as_in_their_order(self):
        ledger = SimulatedLedger()
        ledger.seal_blank(0, 2)
        ledger.reveal_as(0, (0,), (1,))
        before = told(ledger, [0, 1])
        rows = [
            (NotSealed, 1, (0,), (0,)), (NotSealed, 1, (9,), (100, 3)), (NotSealed, 1, (), ()),
            (BadBox, 0, (2,), (0,)), (BadBox, 0, (-1,), (0,)), (BadBox, 0, (0, 2), (100,)), (BadBox, 0, (0, 5), (2, 2)),
            (BadContents, 0, (0,), ()), (BadContents, 0, (0,), (1, 1)), (BadContents, 0, (), (1,)),
            (BadContents, 0, (1,), (100,)), (BadContents, 0, (1,), (-2,)), (BadContents, 0, (0, 1), (2, 100)),
            (BadContents, 0, (0,), (2, 2)), (AlreadySealed, 0, (0,), (2,)), (AlreadySealed, 0, (1, 1), (2, 3)),
        ]
        for error, deal, boxes, contents in rows:
            with self.assertRaises(error):
                ledger.reveal_as(deal, boxes, contents)
            self.assertEqual(told(ledger, [0, 1]), before)
        # Nothing was given to box 1 by the calls that raised.
        ledger.reveal_as(0, (1,), (42,))
        self.assertEqual(ledger.visible(0), (1, 42))


if __name__ == "__main__":
    unittest.main()
