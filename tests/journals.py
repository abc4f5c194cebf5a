"""Budgets, logs and ledgers that note each write in a journal, and the writes that the document asks for."""

from provedunseen.ledgers import Budget, Ledger, SimulatedLedger, Tape
from provedunseen.responders import Knower, Simulator, deals_of

SPENT = "spent"


class NotingBudget(Budget):
    """Notes each call of `spend`; `watched` is a responder whose deals must always be those of its log."""

    def __init__(self, journal):
        super().__init__()
        self.journal = journal
        self.watched = None

    def spend(self):
        if self.watched is not None and self.watched.deals != deals_of(self.watched.log):
            raise AssertionError("the deals are not those of the log")
        self.journal.append(SPENT)
        super().spend()


class NotingLog(list):
    def __init__(self, journal, rows=()):
        super().__init__(rows)
        self.journal = journal

    def append(self, row):
        self.journal.append(("row", row))
        super().append(row)


class NotingLedger(Ledger):
    def __init__(self, journal):
        super().__init__()
        self.journal = journal

    def seal(self, deal, contents):
        self.journal.append(("seal", deal, contents))
        super().seal(deal, contents)

    def reveal(self, deal, boxes):
        self.journal.append(("reveal", deal, tuple(boxes), None))
        super().reveal(deal, boxes)

    def post(self, letter):
        self.journal.append(("letter", letter))
        super().post(letter)


class NotingSimulatedLedger(SimulatedLedger):
    def __init__(self, journal):
        super().__init__()
        self.journal = journal

    def seal_blank(self, deal, boxes):
        self.journal.append(("seal", deal, boxes))
        super().seal_blank(deal, boxes)

    def reveal_as(self, deal, boxes, contents):
        self.journal.append(("reveal", deal, tuple(boxes), contents))
        super().reveal_as(deal, boxes, contents)

    def post(self, letter):
        self.journal.append(("letter", letter))
        super().post(letter)


def writes_in(journal):
    """The writes of a journal, each of which must stand behind a call of `spend` of its own."""
    writes, spent = [], False
    for entry in journal:
        if entry == SPENT:
            spent = True
        elif not spent:
            raise AssertionError(f"{entry} was written without being spent")
        else:
            writes.append(entry)
            spent = False
    return writes


class Model:
    """What a responder writes by the words of the document, worked out from all that it has written so far.

    `kind` is "knower", "careless" or "simulator".
    """

    def __init__(self, kind, schemes, witnesses):
        self.kind, self.schemes, self.witnesses = kind, schemes, witnesses
        self.written = []

    def deals(self):
        deals = []
        for name, *what in self.written:
            if name == "row":
                row = what[0]
                if row[0] == "filled":
                    deals.append([row[2], row[3], None])
                else:
                    deals[row[1]][2] = row[2]
        return [tuple(deal) for deal in deals]

    def rows(self):
        return [what[0] for name, *what in self.written if name == "row"]

    def letters(self):
        return [what[0] for name, *what in self.written if name == "letter"]

    def sealed(self):
        return [what[0] for name, *what in self.written if name == "seal"]

    def revealed(self, deal):
        return {box for name, *what in self.written if name == "reveal" and what[0] == deal for box in what[1]}

    def seal(self, deal, session, draw):
        scheme = self.schemes[session]
        if self.kind == "simulator":
            return ("seal", deal, scheme.boxes)
        return ("seal", deal, scheme.fill(self.witnesses[session], draw))

    def offer(self, session, draw):
        deal = len(self.deals())
        return [("row", ("filled", deal, session, draw)), self.seal(deal, session, draw),
                ("letter", ("sealed", deal, session))]

    def ask(self, deal, question):
        deals = self.deals()
        if not 0 <= deal < len(deals) or not 0 <= question < self.schemes[deals[deal][0]].questions:
            return [("letter", ("none", deal))]
        session, draw, fixed = deals[deal]
        scheme = self.schemes[session]
        asked = question if fixed is None else fixed
        if self.kind == "simulator":
            word, contents = scheme.simulate(asked, draw)
            shown = contents
        else:
            word, shown = scheme.reply(self.witnesses[session], draw, asked)
            contents = None
        boxes = scheme.boxes_for(asked, word)
        writes = [("letter", ("reply", deal, asked, word))]
        if set(boxes) - self.revealed(deal):
            writes.insert(0, ("reveal", deal, boxes, contents))
        if fixed is None:
            writes.insert(len(writes) if self.kind == "careless" else 0, ("row", ("asked", deal, asked)))
        return writes

    def restart(self):
        return [self.seal(deal, session, draw) for deal, (session, draw, _) in enumerate(self.deals())
                if deal not in self.sealed()]


class Rig:
    """A responder of some kind with a journal, and the model of it."""

    def __init__(self, kind, schemes, witnesses, numbers):
        self.kind, self.schemes, self.witnesses = kind, schemes, witnesses
        self.journal = []
        self.tape = Tape(numbers)
        self.log = NotingLog(self.journal)
        self.ledger = (NotingSimulatedLedger if kind == "simulator" else NotingLedger)(self.journal)
        self.budget = NotingBudget(self.journal)
        self.model = Model(kind, schemes, witnesses)
        self.make()

    def make(self):
        """Make the responder, at first or anew from its log and ledger."""
        self.budget.watched = None
        if self.kind == "simulator":
            self.responder = Simulator(self.schemes, self.tape, self.log, self.ledger, self.budget)
        else:
            self.responder = Knower(self.schemes, self.witnesses, self.tape, self.log, self.ledger, self.budget,
                                    careful=self.kind == "knower")
        self.budget.watched = self.responder
