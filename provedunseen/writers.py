"""Whoever writes rows into a log and letters onto a ledger, and may crash at each write."""

from provedunseen.errors import Crash


def fits_form(row, forms):
    """Tell whether the row of a log has one of the forms (word, number of entries), and no integer below 0."""
    return len(row) > 0 and (row[0], len(row)) in forms and all([number >= 0 for number in row[1:]])


def cut_at(cuts, place):
    """Return the cut at the place, or None for no limit behind the last one."""
    return cuts[place] if place < len(cuts) else None


def limited(budget, writes, act, *told):
    """Call `act` with so many writes allowed; tell whether it ends without a crash."""
    budget.allow(writes)
    try:
        act(*told)
    except Crash:
        return False
    finally:
        budget.left = None
    return True


class Writer:
    """Writes as far as its budget allows; `up` is False from a crash to the next restart."""

    def __init__(self, log, ledger, budget):
        self.log = log
        self.ledger = ledger
        self.budget = budget
        self.up = True

    def require_up(self):
        """Raise Crash if the writer is down."""
        if not self.up:
            raise Crash("this writer is down until it is restarted")

    def before_write(self):
        """Spend one write of the budget; without one the writer goes down."""
        try:
            self.budget.spend()
        except Crash:
            self.up = False
            raise

    def write_row(self, row):
        """Add a row to the log."""
        self.before_write()
        self.log.append(row)

    def write_letter(self, letter):
        """Post a letter on the ledger."""
        self.before_write()
        self.ledger.post(letter)
