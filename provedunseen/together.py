"""Plans of cheats for deals side by side: all deals are sealed before the first question is known."""

from provedunseen.errors import BadPlan
from provedunseen.plans import (
    best_value, guesses, parting_place, passes_deal, require_deals, require_keys, require_sealable, row_text,
    share_of_rows,
)
from provedunseen.rows import rows_of


def check_together(scheme, plan, deals):
    """Raise BadPlan if this is no plan side by side for so many deals of the scheme."""
    require_deals(deals)
    fillings, replies = plan
    if len(fillings) != deals:
        raise BadPlan("there must be contents for each deal")
    for contents in fillings:
        require_sealable(scheme, contents)
    require_keys(replies, rows_of(deals, scheme.questions))
    for words in replies.values():
        if len(words) != deals:
            raise BadPlan("there must be one word or None for each deal")


def passed_together(scheme, plan, deals):
    """Return the ascending list of the rows of one question for each deal that the plan passes."""
    check_together(scheme, plan, deals)
    return [row for row in rows_of(deals, scheme.questions) if passes_row(scheme, plan, row)]


def passes_row(scheme, plan, row):
    """Tell whether the plan passes the row at each place."""
    fillings, replies = plan
    words = replies[row_text(row)]
    for contents, question, word in zip(fillings, row, words):
        if not passes_deal(scheme, contents, question, word):
            return False
    return True


def together_chance(scheme, plan, deals):
    """Return the ratio of the passed rows to all rows."""
    return share_of_rows(scheme, passed_together(scheme, plan, deals), deals)


def best_together(scheme, signs, deals):
    """Return the plan side by side that seals the best contents in each deal."""
    contents, words = best_value(scheme, signs, deals)
    rows = rows_of(deals, scheme.questions)
    replies = {row_text(row): tuple([words[question] for question in row]) for row in rows}
    return ((contents,) * deals, replies)


def guess_together(scheme, row, draws):
    """Return the plan side by side that guesses each question of the row, at these draws."""
    made = guesses(scheme, row, draws)
    replies = {row_text(asked): guessed_words(made, row, asked) for asked in rows_of(len(row), scheme.questions)}
    return (tuple([contents for contents, _ in made]), replies)


def guessed_words(made, row, asked):
    """Return the word of each guess if its question is asked there, otherwise None."""
    return tuple([
        word if question == guessed else None
        for (_, word), guessed, question in zip(made, row, asked)
    ])


def extract_from_together(scheme, plan, deals):
    """Return the witness read off a plan side by side that passes two rows, or None."""
    rows = passed_together(scheme, plan, deals)
    if scheme.questions != 2 or len(rows) < 2:
        return None
    fillings, replies = plan
    place = parting_place(rows[0], rows[1])
    words = tuple([replies[row_text(row)][place] for row in rows[:2]])
    return scheme.extract(fillings[place], words)
