"""Trials: a cheat with a plan faces an asker that may crash."""

from provedunseen.askers import Asker
from provedunseen.errors import BadSchedule
from provedunseen.ledgers import Budget, Ledger, Tape
from provedunseen.plans import check_plan, row_text
from provedunseen.views import all_tapes
from provedunseen.writers import cut_at, limited

MOST_CUTS = 6
GREATEST_CUT = 9
MOST_PATIENCE = 3


class Trial:
    """A cheat that faces a new asker, with one deal of its plan behind another."""

    def __init__(self, scheme, plan, asker, cuts):
        self.scheme = scheme
        self.plan = plan
        self.asker = asker
        self.limits = cuts
        self.told = 0

    def tell(self, letter):
        """Let the asker hear the letter; restart it if it crashes, and tell whether it did not."""
        ended = limited(self.asker.budget, cut_at(self.limits, self.told), self.asker.hear, letter)
        self.told += 1
        if not ended:
            self.asker.restart()
        return ended

    def question_for(self, deal):
        """Tell of the sealed deal until the asker has heard it, and return the question that it posted."""
        heard = False
        while not heard:
            heard = self.tell(("sealed", deal, 0))
        return self.asker.ledger.letters[-1][2]

    def replied(self, deal, question, word):
        """Answer the question, and tell whether the asker heard it without a crash."""
        boxes = self.scheme.boxes_for(question, word)
        if boxes is not None:
            self.asker.ledger.reveal(deal, boxes)
        return self.tell(("reply", deal, question, word))

    def play(self, row, patience):
        """Play the deal behind these questions; return its question, or None if the cheat gives up."""
        deal = len(row)
        contents, words = self.plan[row_text(row)]
        self.asker.ledger.seal(deal, contents)
        left = patience
        while True:
            question = self.question_for(deal)
            word = words[question]
            if word is not None:
                if self.replied(deal, question, word):
                    return question
            elif left == 0:
                return None
            else:
                # The cheat hopes for another question behind a restart.
                self.asker.restart()
                left -= 1


def require_cuts(cuts, patience):
    """Raise BadSchedule if the cuts or the patience are out of range."""
    if len(cuts) > MOST_CUTS or not all([0 <= cut <= GREATEST_CUT for cut in cuts]):
        raise BadSchedule(f"there are at most {MOST_CUTS} cuts from 0 to {GREATEST_CUT}")
    if not 0 <= patience <= MOST_PATIENCE:
        raise BadSchedule(f"the patience is from 0 to {MOST_PATIENCE}")


def trial(scheme, plan, deals, coins, cuts, patience, *, careful=True):
    """Return the verdict of a new asker that faces a cheat with this plan."""
    check_plan(scheme, plan, deals)
    require_cuts(cuts, patience)
    asker = Asker(scheme, deals, Tape(coins), [], Ledger(), Budget(), careful=careful)
    played = Trial(scheme, plan, asker, cuts)
    row = ()
    while len(row) < deals:
        question = played.play(row, patience)
        if question is None:
            return asker.verdict
        row = row + (question,)
    return asker.verdict


def trial_count(scheme, plan, deals, length, cuts, patience, *, careful=True):
    """Return for how many tapes of coins of this length the verdict is "yes"."""
    tapes = all_tapes(scheme.questions, length)
    verdicts = [trial(scheme, plan, deals, coins, cuts, patience, careful=careful) for coins in tapes]
    return verdicts.count("yes")
