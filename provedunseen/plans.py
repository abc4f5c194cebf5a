"""Plans of cheats for deals one behind another: each deal is filled when the questions before it are known."""

from provedunseen.cheats import best_filling, guess_filling
from provedunseen.errors import BadPlan, BadRatio
from provedunseen.ledgers import BLANK, GREATEST_CONTENT, are_contents
from provedunseen.ratios import MOST_TIMES, Ratio
from provedunseen.rows import rows_of

MOST_DEALS = 3
QUESTION_SIGNS = "0123456789abcde"


def row_text(row):
    """Return the text of a row of questions, one sign for each of them."""
    return "".join([QUESTION_SIGNS[question] for question in row])


def require_deals(deals):
    """Raise BadPlan if there are not 1 to 3 deals."""
    if not 1 <= deals <= MOST_DEALS:
        raise BadPlan(f"a plan is for 1 to {MOST_DEALS} deals")


def require_keys(replies, rows):
    """Raise BadPlan if the keys of the dict are not the texts of the rows."""
    if sorted(list(replies)) != sorted([row_text(row) for row in rows]):
        raise BadPlan("the keys of a plan are the texts of all rows")


def require_sealable(scheme, contents):
    """Raise BadPlan if there is not one integer from -1 to 99 for each box."""
    if len(contents) != scheme.boxes:
        raise BadPlan("there must be one integer for each box")
    if not are_contents(contents):
        raise BadPlan(f"contents are from {BLANK} to {GREATEST_CONTENT}")


def rows_before(scheme, deals):
    """Return the list of all rows of fewer questions than there are deals."""
    return [row for size in range(deals) for row in rows_of(size, scheme.questions)]


def check_plan(scheme, plan, deals):
    """Raise BadPlan if this is no plan for so many deals of the scheme."""
    require_deals(deals)
    require_keys(plan, rows_before(scheme, deals))
    for contents, words in plan.values():
        require_sealable(scheme, contents)
        if len(words) != scheme.questions:
            raise BadPlan("there must be one word or None for each question")


def passes_deal(scheme, contents, question, word):
    """Tell whether a cheat that sealed the contents passes the question with this word or None."""
    return word is not None and scheme.accepts(contents, question, word)


def passed_rows(scheme, plan, deals):
    """Return the ascending list of the rows of one question for each deal that the plan passes."""
    check_plan(scheme, plan, deals)
    rows = [()]
    for _ in range(deals):
        rows = [row + (question,) for row in rows for question in passed_next(scheme, plan, row)]
    return rows


def passed_next(scheme, plan, row):
    """Return the ascending list of the questions that the plan passes behind these questions."""
    contents, words = plan[row_text(row)]
    return [question for question, word in enumerate(words) if passes_deal(scheme, contents, question, word)]


def plan_chance(scheme, plan, deals):
    """Return the ratio of the passed rows to all rows."""
    return share_of_rows(scheme, passed_rows(scheme, plan, deals), deals)


def share_of_rows(scheme, rows, deals):
    """Return the ratio of the number of these rows to that of all rows of one question for each deal."""
    return Ratio(len(rows), 1) * Ratio(1, scheme.questions).raised(deals)


def rest_plan(scheme, plan, deals, question):
    """Return the plan for the other deals when this question has been asked first."""
    check_plan(scheme, plan, deals)
    if deals == 1:
        raise BadPlan("there is no other deal")
    scheme.require_question(question)
    first = row_text((question,))
    return {key[1:]: value for key, value in plan.items() if key.startswith(first)}


def best_value(scheme, signs, deals):
    """Return the least contents that pass the most questions, and their answers to all questions."""
    require_deals(deals)
    _, contents = best_filling(scheme, signs)
    return (contents, tuple([scheme.answer(contents, question) for question in range(scheme.questions)]))


def best_plan(scheme, signs, deals):
    """Return the plan that seals the best contents in each deal."""
    value = best_value(scheme, signs, deals)
    return {row_text(row): value for row in rows_before(scheme, deals)}


def guesses(scheme, row, draws):
    """Return (contents, word) of the guess at each place of the row."""
    require_deals(len(row))
    if len(draws) != len(row):
        raise BadPlan("there must be one draw for each question")
    return [guess_filling(scheme, question, draw) for question, draw in zip(row, draws)]


def guess_plan(scheme, row, draws):
    """Return the plan that guesses each question of the row, at these draws."""
    values = []
    for question, (contents, word) in zip(row, guesses(scheme, row, draws)):
        words = [word if asked == question else None for asked in range(scheme.questions)]
        values.append((contents, tuple(words)))
    return {row_text(before): values[len(before)] for before in rows_before(scheme, len(row))}


def parting_place(first, second):
    """Return the first place at which two different rows of one length differ."""
    return [a == b for a, b in zip(first, second)].index(False)


def extract_from_plan(scheme, plan, deals):
    """Return the witness read off a plan that passes two rows, or None."""
    rows = passed_rows(scheme, plan, deals)
    if scheme.questions != 2 or len(rows) < 2:
        return None
    place = parting_place(rows[0], rows[1])
    contents, words = plan[row_text(rows[0][:place])]
    return scheme.extract(contents, words)


def deals_needed(ratio, limit, *, most=60):
    """Return the least number of deals for which the power of the ratio is at most the limit, or None."""
    if not 0 <= most <= MOST_TIMES:
        raise BadRatio(f"a ratio is raised 0 to {MOST_TIMES} times")
    for deals in range(most + 1):
        if not limit.less(ratio.raised(deals)):
            return deals
    return None
