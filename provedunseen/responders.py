"""Responders: they fill and seal deals, answer questions about them, and may crash at any write."""

from provedunseen.errors import BadLog, BadSession, BadWitness, NothingExtracted
from provedunseen.writers import Writer, fits_form, limited

FORMS = (("filled", 4), ("asked", 3))


def deals_of(rows):
    """Return (session, draw, question) for each deal of a log; the question is None if none is fixed."""
    deals = []
    for place, row in enumerate(rows):
        if not fits_form(row, FORMS):
            raise BadLog(place)
        deal = row[1]
        if row[0] == "filled":
            if deal != len(deals):
                raise BadLog(place)
            deals.append((row[2], row[3], None))
        else:
            if deal >= len(deals) or deals[deal][2] is not None:
                raise BadLog(place)
            session, draw, _ = deals[deal]
            deals[deal] = (session, draw, row[2])
    return deals


class Responder(Writer):
    """Fills and seals deals and answers one question about each; all that it remembers is its log."""

    def __init__(self, schemes, tape, log, ledger, budget):
        super().__init__(log, ledger, budget)
        self.schemes = list(schemes)
        self.tape = tape
        self.careful = True
        self.deals = deals_of(log)
        self.up = all([ledger.is_sealed(deal) for deal in range(len(self.deals))])

    # What the derived classes do in their own way.

    def seal_deal(self, deal):
        """Seal the deal on the ledger."""
        raise NotImplementedError("a derived class seals deals")

    def reply_at(self, session, draw, question):
        """Return the reply to the question about a deal of this session and draw."""
        raise NotImplementedError("a derived class replies")

    def reveal_reply(self, deal, boxes, contents):
        """Reveal the boxes of a reply, which has these contents."""
        raise NotImplementedError("a derived class reveals boxes")

    # What all responders do.

    def write_row(self, row):
        """Add a row to the log, from which the deals follow."""
        super().write_row(row)
        self.deals = deals_of(self.log)

    def write_seal(self, deal):
        """Seal the deal, as one write."""
        self.before_write()
        self.seal_deal(deal)

    def offer(self, session):
        """Fill and seal a new deal of the session, and tell of it."""
        if session < 0 or session >= len(self.schemes):
            raise BadSession("there is no such session")
        self.require_up()
        draw = self.tape.take(self.schemes[session].draws)
        deal = len(self.deals)
        self.write_row(("filled", deal, session, draw))
        self.write_seal(deal)
        self.write_letter(("sealed", deal, session))

    def has_question(self, deal, question):
        """Tell whether there is such a deal, and its scheme has such a question."""
        if deal < 0 or deal >= len(self.deals):
            return False
        return 0 <= question < self.schemes[self.deals[deal][0]].questions

    def due_writes(self, deal, question):
        """Return the writes of an answer: the row, the revealed (boxes, contents) and the letter.

        None stands for a write that is not made.
        """
        if not self.has_question(deal, question):
            return (None, None, ("none", deal))
        session, draw, fixed = self.deals[deal]
        asked = question if fixed is None else fixed
        word, contents = self.reply_at(session, draw, asked)
        boxes = self.schemes[session].boxes_for(asked, word)
        known = [box for box, _ in self.ledger.shown(deal)]
        hidden = [box for box in boxes if box not in known]
        row = ("asked", deal, asked) if fixed is None else None
        return (row, (boxes, contents) if len(hidden) > 0 else None, ("reply", deal, asked, word))

    def ask(self, deal, question):
        """Answer the question about the deal, or the one that is fixed for it."""
        self.require_up()
        row, reply, letter = self.due_writes(deal, question)
        # Who fixes the question before anything is told stays with it behind a crash.
        if row is not None and self.careful:
            self.write_row(row)
        if reply is not None:
            boxes, contents = reply
            self.before_write()
            self.reveal_reply(deal, boxes, contents)
        self.write_letter(letter)
        if row is not None and not self.careful:
            self.write_row(row)

    def restart(self):
        """Read the log and seal the deals that are not sealed."""
        self.deals = deals_of(self.log)
        for deal in range(len(self.deals)):
            if not self.ledger.is_sealed(deal):
                self.write_seal(deal)
        self.up = True


class Knower(Responder):
    """A responder with a witness for each session.

    A careless one fixes a question when it has told everything, and not before.
    """

    def __init__(self, schemes, witnesses, tape, log, ledger, budget, *, careful=True):
        if len(witnesses) != len(schemes):
            raise BadWitness("there must be one witness for each scheme")
        if not all([scheme.holds(witness) for scheme, witness in zip(schemes, witnesses)]):
            raise BadWitness("a witness is not one for its scheme")
        super().__init__(schemes, tape, log, ledger, budget)
        self.witnesses = list(witnesses)
        self.careful = careful

    def seal_deal(self, deal):
        """Seal what the scheme fills for the witness."""
        session, draw, _ = self.deals[deal]
        self.ledger.seal(deal, self.schemes[session].fill(self.witnesses[session], draw))

    def reply_at(self, session, draw, question):
        """Return the reply that the witness gives."""
        return self.schemes[session].reply(self.witnesses[session], draw, question)

    def reveal_reply(self, deal, boxes, contents):
        """Reveal the boxes, which hold these contents already."""
        self.ledger.reveal(deal, boxes)


class Simulator(Responder):
    """A responder without witnesses, on a simulated ledger."""

    def __init__(self, schemes, tape, log, ledger, budget):
        super().__init__(schemes, tape, log, ledger, budget)

    def seal_deal(self, deal):
        """Seal as many boxes as the scheme has, without contents."""
        self.ledger.seal_blank(deal, self.schemes[self.deals[deal][0]].boxes)

    def reply_at(self, session, draw, question):
        """Return the simulated reply."""
        return self.schemes[session].simulate(question, draw)

    def reveal_reply(self, deal, boxes, contents):
        """Reveal the boxes and give them these contents."""
        self.ledger.reveal_as(deal, boxes, contents)


def writes_due(responder, deal, question):
    """Return how many writes the responder would make without a limit if it were asked this."""
    if not responder.up:
        return 0
    return len([write for write in responder.due_writes(deal, question) if write is not None])


def attempt(responder, move, *, writes=None):
    """Carry out a move with so many writes allowed; tell whether it ends without a crash."""
    kind, *told = move
    if kind == "offer":
        return limited(responder.budget, writes, responder.offer, *told)
    if kind == "ask":
        return limited(responder.budget, writes, responder.ask, *told)
    return limited(responder.budget, writes, responder.restart)


def given_away(scheme, ledger, deal):
    """Return the witness that anyone can read off what the ledger tells about the deal, or None."""
    if not ledger.is_sealed(deal):
        return None
    words = {}
    for letter in ledger.letters_of(deal):
        if letter[0] == "reply" and letter[2] not in words:
            words[letter[2]] = letter[3]
    asked = [question for question in range(scheme.questions) if question in words]
    if len(asked) < scheme.questions:
        return None
    try:
        return scheme.extract(ledger.visible(deal), tuple([words[question] for question in asked]))
    except NothingExtracted:
        return None
