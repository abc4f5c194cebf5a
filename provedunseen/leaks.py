"""What the replies of a table tell about its witnesses, and how its draws are matched."""

from provedunseen.errors import LeakyTable
from provedunseen.ratios import Ratio


def first_failure(table):
    """Return the least (witness, draw, question) whose reply is not accepted, or None."""
    for witness in range(len(table.fillings)):
        for draw in range(table.draws):
            for question in range(table.questions):
                word, shown = table.reply(witness, draw, question)
                if not table.judge(question, word, shown):
                    return (witness, draw, question)
    return None


def replies_of(table, witness, question):
    """Return the list of the replies of the witness to the question, one for each draw."""
    # A reply checks the question, then the witness.
    return [table.reply(witness, draw, question) for draw in range(table.draws)]


def count_reply(table, witness, question, reply):
    """Return at how many draws the witness gives the reply to the question."""
    return replies_of(table, witness, question).count(reply)


def differences(table):
    """Yield (question, first, second, reply) for each reply that tells two witnesses apart."""
    many = len(table.fillings)
    for question in range(table.questions):
        replies = [replies_of(table, witness, question) for witness in range(many)]
        for first in range(many):
            for second in range(first + 1, many):
                for reply in different_counts(replies[first], replies[second]):
                    yield (question, first, second, reply)


def different_counts(some, others):
    """Return the ascending list of the replies that stand more often in one of the lists."""
    return [reply for reply in sorted(set(some + others)) if some.count(reply) != others.count(reply)]


def first_difference(table):
    """Return the first tuple that `differences` yields, or None."""
    for found in differences(table):
        return found
    return None


def best_guess(table, first, second, question):
    """Return the greatest probability of telling two witnesses apart by one reply."""
    some = replies_of(table, first, question)
    others = replies_of(table, second, question)
    right = sum([max(some.count(reply), others.count(reply)) for reply in sorted(set(some + others))])
    return Ratio(right, 2 * table.draws)


def exchange(table, witness, question):
    """Return for each draw of the witness a draw at which witness 0 gives the same reply."""
    own = replies_of(table, witness, question)
    shared = replies_of(table, 0, question)
    if sorted(own) != sorted(shared):
        raise LeakyTable("a reply has different counts for the witness and witness 0")
    row = [0] * table.draws
    for draw, other in zip(by_reply(own), by_reply(shared)):
        row[draw] = other
    return tuple(row)


def by_reply(replies):
    """Return the draws sorted by their replies, and draws with equal replies by their numbers."""
    return [draw for _, draw in sorted([(reply, draw) for draw, reply in enumerate(replies)])]


def is_exchange(table, witness, question, row):
    """Tell whether the tuple of integers is all draws, each with the reply of witness 0 there."""
    own = replies_of(table, witness, question)
    shared = replies_of(table, 0, question)
    if sorted(row) != list(range(table.draws)):
        return False
    return all([own[draw] == shared[other] for draw, other in enumerate(row)])
