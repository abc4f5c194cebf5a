"""Askers: they ask one question about each deal, judge the replies, and may crash at any write."""

from provedunseen.errors import BadLog
from provedunseen.writers import Writer, fits_form

FORMS = (("asks", 3), ("judged", 3))


def asks_of(rows):
    """Return the list of (deal, question) and that of (deal, bit) that a log tells."""
    asked = {}
    judged = {}
    for place, row in enumerate(rows):
        if not fits_form(row, FORMS):
            raise BadLog(place)
        word, deal, number = row
        told = asked if word == "asks" else judged
        if deal in told or (word == "judged" and number > 1):
            raise BadLog(place)
        told[deal] = number
    return (list(asked.items()), list(judged.items()))


class Asker(Writer):
    """Asks one question about each deal that it is told of, and judges the reply to it.

    A careless one keeps its questions only in its memory, which a restart loses.
    """

    def __init__(self, scheme, count, coins, log, ledger, budget, *, careful=True):
        super().__init__(log, ledger, budget)
        self.scheme = scheme
        self.wanted = count
        self.coins = coins
        self.careful = careful
        asked, judged = asks_of(log)
        self.questions = dict(asked)
        self.bits = dict(judged)

    @property
    def verdict(self):
        """What the judged replies say: "no", "yes" or "open"."""
        bits = list(self.bits.values())
        if 0 in bits:
            return "no"
        return "yes" if len(bits) >= self.wanted else "open"

    def restart(self):
        """Take the questions and bits from the log."""
        asked, judged = asks_of(self.log)
        self.questions = dict(asked)
        self.bits = dict(judged)
        self.up = True

    def hear(self, letter):
        """Take a letter about a sealed deal or a reply; all other letters are ignored."""
        self.require_up()
        if letter[0] == "sealed":
            self.hear_sealed(letter[1])
        elif letter[0] == "reply":
            _, deal, question, word = letter
            self.hear_reply(deal, question, word)

    def has_room(self):
        """Tell whether a question about another deal is wanted."""
        forgotten = [deal for deal in self.bits if deal not in self.questions]
        return len(self.questions) + len(forgotten) < self.wanted

    def hear_sealed(self, deal):
        """Ask the question about a sealed deal; it is chosen when the deal is new."""
        if deal in self.bits or not self.ledger.is_sealed(deal):
            return
        if deal not in self.questions and self.has_room():
            question = self.coins.take(self.scheme.questions)
            if self.careful:
                self.write_row(("asks", deal, question))
            self.questions[deal] = question
        if deal in self.questions:
            self.write_letter(("ask", deal, self.questions[deal]))

    def hear_reply(self, deal, question, word):
        """Judge a reply to the question that was asked about the deal."""
        if deal in self.bits or self.questions.get(deal) != question:
            return
        boxes = self.scheme.boxes_for(question, word)
        revealed = dict(self.ledger.shown(deal))
        if boxes is not None and not all([box in revealed for box in boxes]):
            return
        shown = None if boxes is None else tuple([revealed[box] for box in boxes])
        bit = 1 if shown is not None and self.scheme.judge(question, word, shown) else 0
        self.write_row(("judged", deal, bit))
        self.bits[deal] = bit
