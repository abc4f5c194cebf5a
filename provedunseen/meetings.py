"""Meetings of a knower and an asker, both of whom may crash, and whose letters may be late or lost."""

from provedunseen.askers import Asker
from provedunseen.errors import BadSchedule
from provedunseen.ledgers import Budget, Ledger, Tape
from provedunseen.responders import Knower, attempt
from provedunseen.writers import limited

KINDS = ("offer", "deliver", "crash")
MOST_DEALS = 3
MOST_MOVES = 20
GREATEST_NUMBER = 99
NO_LIMIT = -1
# Brought three times, the letters lead from sealed deals over questions to judged replies.
ROUNDS = 3


def is_scheduled(move):
    """Tell whether the tuple is a move of a schedule."""
    if len(move) != 3:
        return False
    kind, number, cut = move
    return kind in KINDS and 0 <= number <= GREATEST_NUMBER and NO_LIMIT <= cut <= GREATEST_NUMBER


class Meeting:
    """A knower with one session and a careful asker, both on one ledger."""

    def __init__(self, scheme, witness, count, numbers, coins):
        if not 1 <= count <= MOST_DEALS:
            raise BadSchedule(f"there are 1 to {MOST_DEALS} deals")
        self.wanted = count
        self.ledger = Ledger()
        self.knower = Knower([scheme], [witness], Tape(numbers), [], self.ledger, Budget())
        self.asker = Asker(scheme, count, Tape(coins), [], self.ledger, Budget())

    @property
    def verdict(self):
        """The verdict of the asker."""
        return self.asker.verdict

    def move_knower(self, move, writes):
        """Let the knower carry out the move with so many writes; restart it if it crashes."""
        if not attempt(self.knower, move, writes=writes):
            self.knower.restart()

    def bring(self, letter, writes):
        """Bring the letter to the one for whom it is meant, who may make so many writes."""
        if letter[0] == "ask":
            self.move_knower(letter, writes)
        elif not limited(self.asker.budget, writes, self.asker.hear, letter):
            self.asker.restart()

    def run(self, schedule):
        """Carry out the moves (kind, number, cut) of the schedule."""
        if len(schedule) > MOST_MOVES or not all([is_scheduled(move) for move in schedule]):
            raise BadSchedule("the schedule is not as described")
        for kind, number, cut in schedule:
            writes = None if cut == NO_LIMIT else cut
            letters = self.ledger.letters
            if kind == "offer":
                self.move_knower(("offer", 0), writes)
            elif kind == "crash":
                self.asker.restart()
                self.move_knower(("restart",), writes)
            elif len(letters) > 0:
                self.bring(letters[number % len(letters)], writes)

    def finish(self):
        """Offer the wanted deals once more and bring all letters to their end; return the verdict."""
        for _ in range(self.wanted):
            self.move_knower(("offer", 0), None)
        for _ in range(ROUNDS):
            letters = list(self.ledger.letters)
            for letter in letters:
                self.bring(letter, None)
        return self.verdict
