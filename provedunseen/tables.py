"""Tables: schemes that are given as data."""

from provedunseen.errors import BadTable, LeakyTable, NothingExtracted
from provedunseen.leaks import exchange, first_difference
from provedunseen.schemes import Scheme

MOST_BOXES = 9
MOST_SIGNS = 4
MOST_QUESTIONS = 6
MOST_RULES = 12
MOST_WITNESSES = 6
MOST_DRAWS = 24


def require_numbers(boxes, signs, rule_counts, draw_counts):
    """Raise BadTable for a number out of its bounds.

    `rule_counts` has the number of rules for each question, `draw_counts` that of fillings
    for each witness.
    """
    if not 1 <= boxes <= MOST_BOXES:
        raise BadTable(f"a table has 1 to {MOST_BOXES} boxes")
    if not 1 <= signs <= MOST_SIGNS:
        raise BadTable(f"a table has 1 to {MOST_SIGNS} signs")
    if not 1 <= len(rule_counts) <= MOST_QUESTIONS:
        raise BadTable(f"a table has 1 to {MOST_QUESTIONS} questions")
    if any([not 1 <= many <= MOST_RULES for many in rule_counts]):
        raise BadTable(f"a question has 1 to {MOST_RULES} rules")
    if not 1 <= len(draw_counts) <= MOST_WITNESSES:
        raise BadTable(f"a table has 1 to {MOST_WITNESSES} witnesses")
    if not 1 <= draw_counts[0] <= MOST_DRAWS:
        raise BadTable(f"a witness has 1 to {MOST_DRAWS} fillings")
    if any([many != draw_counts[0] for many in draw_counts]):
        raise BadTable("each witness has as many fillings")


def is_within(row, below):
    """Tell whether all integers of the tuple are from 0 to below - 1."""
    return all([0 <= entry < below for entry in row])


def is_ascending(row):
    """Tell whether the tuple is ascending and without duplicates."""
    return all([before < after for before, after in zip(row, row[1:])])


def is_rule(rule, boxes, signs):
    """Tell whether the tuple is a rule of a table with so many boxes and signs."""
    if len(rule) != 2:
        return False
    revealed, accepted = rule
    if not is_within(revealed, boxes) or not is_ascending(revealed) or not is_ascending(accepted):
        return False
    return all([len(shown) == len(revealed) and is_within(shown, signs) for shown in accepted])


def is_filling(filling, boxes, signs, rule_counts):
    """Tell whether the tuple is a filling of a table with these numbers."""
    if len(filling) != 2:
        return False
    contents, choices = filling
    if len(contents) != boxes or not is_within(contents, signs) or len(choices) != len(rule_counts):
        return False
    return all([0 <= choice < many for choice, many in zip(choices, rule_counts)])


class TableScheme(Scheme):
    """A scheme whose rules and fillings are listed: its witnesses are the places in `fillings`."""

    def __init__(self, boxes, signs, rules, fillings):
        rule_counts = [len(entry) for entry in rules]
        require_numbers(boxes, signs, rule_counts, [len(entry) for entry in fillings])
        if not all([is_rule(rule, boxes, signs) for entry in rules for rule in entry]):
            raise BadTable("a rule is not as described")
        if not all([is_filling(filling, boxes, signs, rule_counts) for entry in fillings for filling in entry]):
            raise BadTable("a filling is not as described")
        self.boxes = boxes
        self.signs = signs
        self.rules = rules
        self.fillings = fillings
        self.questions = len(rules)
        self.draws = len(fillings[0])
        self.leak = first_difference(self)

    def require_no_leak(self):
        """Raise LeakyTable if a reply tells two witnesses apart."""
        if self.leak is not None:
            raise LeakyTable("the replies of this table tell its witnesses apart")

    def rule_of(self, question, word):
        """Return the rule to which the word belongs, or None if it is no word for the question."""
        self.require_question(question)
        if len(word) != 1 or not 0 <= word[0] < len(self.rules[question]):
            return None
        return self.rules[question][word[0]]

    def holds(self, witness):
        """Tell whether the value is the number of an entry of the fillings."""
        return type(witness) is int and 0 <= witness < len(self.fillings)

    def fill(self, witness, draw):
        """Return the contents that a knower with this witness seals at this draw."""
        self.require_knower(witness, draw)
        return self.fillings[witness][draw][0]

    def word(self, witness, draw, question):
        """Return the word of the rule that this knower chooses for the question."""
        self.require_reply(question, witness, draw)
        return (self.fillings[witness][draw][1][question],)

    def words(self, question):
        """Return the list of the words of all rules for the question."""
        self.require_question(question)
        return [(number,) for number in range(len(self.rules[question]))]

    def word_length(self, question, word):
        """Return 1, or None if the tuple is empty."""
        self.require_question(question)
        return None if len(word) == 0 else 1

    def boxes_for(self, question, word):
        """Return the revealed boxes of the word's rule, or None for what is no word."""
        rule = self.rule_of(question, word)
        return None if rule is None else rule[0]

    def judge(self, question, word, shown):
        """Tell whether the word's rule accepts the shown tuple."""
        rule = self.rule_of(question, word)
        return rule is not None and shown in rule[1]

    def simulate(self, question, draw):
        """Return the reply of witness 0, which is that of every witness if the table does not leak."""
        self.require_simulated(question, draw)
        self.require_no_leak()
        return self.reply(0, draw, question)

    def find_draw(self, question, word, shown):
        """Return the least draw at which witness 0 gives this reply, or None."""
        self.require_question(question)
        for draw in range(self.draws):
            if self.reply(0, draw, question) == (word, shown):
                return draw
        return None

    def matching_draw(self, witness, question, draw):
        """Return the draw that the exchange with witness 0 has for the given one."""
        self.require_reply(question, witness, draw)
        self.require_no_leak()
        return exchange(self, witness, question)[draw]

    def original_draw(self, witness, question, draw):
        """Return the draw for which the exchange with witness 0 has the given one."""
        self.require_reply(question, witness, draw)
        self.require_no_leak()
        return exchange(self, witness, question).index(draw)

    def read(self, contents, words):
        """Raise NothingExtracted: nothing tells how a witness of a table could be read off."""
        raise NothingExtracted("no witness is read off a table")
