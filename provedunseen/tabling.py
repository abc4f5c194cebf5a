"""Tables that are made of other tables and of small schemes."""

from provedunseen.cheats import count_fillings, fillings_of
from provedunseen.errors import BadTable, TooLarge
from provedunseen.tables import (
    MOST_BOXES, MOST_DRAWS, MOST_QUESTIONS, MOST_RULES, MOST_SIGNS, MOST_WITNESSES, TableScheme, require_numbers,
)

MOST_SHOWN = 1000


def restricted(table, *questions):
    """Return the table that has only the given questions, in the given order."""
    for asked in questions:
        table.require_question(asked)
    rules = tuple([table.rules[question] for question in questions])
    fillings = tuple([
        tuple([(contents, tuple([choices[question] for question in questions])) for contents, choices in entry])
        for entry in table.fillings
    ])
    return TableScheme(table.boxes, table.signs, rules, fillings)


def paired(left, right):
    """Return the table for a deal of each of two tables, side by side."""
    # The numbers are checked first, since all pairs together may be very many.
    rule_counts = [len(mine) * len(others) for mine in left.rules for others in right.rules]
    witnesses = len(left.fillings) * len(right.fillings)
    boxes = left.boxes + right.boxes
    signs = max(left.signs, right.signs)
    require_numbers(boxes, signs, rule_counts, [left.draws * right.draws] * witnesses)
    rules = tuple([
        tuple([paired_rule(left.boxes, rule, other) for rule in mine for other in others])
        for mine in left.rules for others in right.rules
    ])
    counts = [len(others) for others in right.rules]
    fillings = tuple([
        tuple([paired_filling(counts, filling, other) for filling in mine for other in others])
        for mine in left.fillings for others in right.fillings
    ])
    return TableScheme(boxes, signs, rules, fillings)


def paired_rule(boxes, left, right):
    """Return the rule that asks for what two rules ask for, where the left table has so many boxes."""
    revealed = left[0] + tuple([boxes + box for box in right[0]])
    return (revealed, tuple([shown + other for shown in left[1] for other in right[1]]))


def paired_filling(counts, left, right):
    """Return the filling for both deals, where the right table has so many rules for each question."""
    choices = tuple([
        choice * many + other
        for choice in left[1] for many, other in zip(counts, right[1])
    ])
    return (left[0] + right[0], choices)


def tabled(scheme, witnesses, signs):
    """Write a small scheme with a list of its witnesses as a table."""
    if not 1 <= signs <= MOST_SIGNS:
        raise BadTable(f"a table has 1 to {MOST_SIGNS} signs")
    if len(witnesses) == 0:
        raise BadTable("a table has at least one witness")
    words = listed_words(scheme, witnesses, signs)
    for witness in witnesses:
        scheme.require_witness(witness)
    rules = tuple([
        tuple([tabled_rule(scheme, signs, question, word) for word in row])
        for question, row in enumerate(words)
    ])
    fillings = tuple([
        tuple([tabled_filling(scheme, words, witness, draw) for draw in range(scheme.draws)])
        for witness in witnesses
    ])
    # This raises BadTable for a content that is too great.
    return TableScheme(scheme.boxes, signs, rules, fillings)


def listed_words(scheme, witnesses, signs):
    """Return the list of the words for each question, if the scheme is small enough."""
    if scheme.boxes > MOST_BOXES or scheme.questions > MOST_QUESTIONS or scheme.draws > MOST_DRAWS:
        raise TooLarge("the scheme has too many boxes, questions or draws")
    if len(witnesses) > MOST_WITNESSES:
        raise TooLarge(f"a table has at most {MOST_WITNESSES} witnesses")
    words = [scheme.words(question) for question in range(scheme.questions)]
    for question, row in enumerate(words):
        if len(row) > MOST_RULES:
            raise TooLarge(f"a question has at most {MOST_RULES} rules")
        if any([count_fillings(len(scheme.boxes_for(question, word)), signs) > MOST_SHOWN for word in row]):
            raise TooLarge(f"a word reveals boxes with more than {MOST_SHOWN} contents")
    return words


def tabled_rule(scheme, signs, question, word):
    """Return the rule of a word: what it reveals, and what is accepted with it."""
    revealed = scheme.boxes_for(question, word)
    accepted = [shown for shown in fillings_of(len(revealed), signs) if scheme.judge(question, word, shown)]
    return (revealed, tuple(accepted))


def tabled_filling(scheme, words, witness, draw):
    """Return the contents that the scheme fills, with 0 for a blank, and the places of its words."""
    contents = tuple([max(0, content) for content in scheme.fill(witness, draw)])
    choices = [row.index(scheme.word(witness, draw, question)) for question, row in enumerate(words)]
    return (contents, tuple(choices))
