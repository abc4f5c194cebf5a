"""Cheats, who have no witness and fill the boxes as they like."""

from provedunseen.errors import BadContents, TooLarge
from provedunseen.ledgers import BLANK
from provedunseen.ratios import Ratio

MOST_SIGNS = 100
MOST_FILLINGS = 1000


def fillings_of(boxes, signs):
    """Yield all tuples of so many integers from 0 to signs - 1, in ascending order."""
    # Without a sign there is nothing to put into a box.
    filling = (0,) * boxes if signs > 0 or boxes == 0 else None
    while filling is not None:
        yield filling
        filling = next_filling(filling, signs)


def next_filling(filling, signs):
    """Return the next tuple of integers from 0 to signs - 1 in ascending order, or None."""
    place = len(filling) - 1
    while place >= 0 and filling[place] == signs - 1:
        place -= 1
    if place < 0:
        return None
    return filling[:place] + (filling[place] + 1,) + (0,) * (len(filling) - place - 1)


def count_fillings(boxes, signs):
    """Return the number of tuples that `fillings_of` yields."""
    many = 1
    for _ in range(boxes):
        many = many * signs
    return many


def passes(scheme, contents, question, words):
    """Tell whether the contents are accepted for the question with one of the words."""
    for word in words:
        if scheme.accepts(contents, question, word):
            return True
    return False


def best_weighted(scheme, signs, weighted):
    """Return (weight, contents): the greatest weight of passed questions, and the least such contents.

    `weighted` is a list of pairs (question, weight).
    """
    if not 1 <= signs <= MOST_SIGNS:
        raise BadContents(f"there are 1 to {MOST_SIGNS} signs")
    if count_fillings(scheme.boxes, signs) > MOST_FILLINGS:
        raise TooLarge(f"there are more than {MOST_FILLINGS} contents")
    # All words are listed first, since too many of them are an error even if no contents get there.
    rows = [(question, weight, scheme.words(question)) for question, weight in weighted]
    best = (-1, ())
    for contents in fillings_of(scheme.boxes, signs):
        passed = sum([weight for question, weight, words in rows if passes(scheme, contents, question, words)])
        if passed > best[0]:
            best = (passed, contents)
    return best


def best_filling(scheme, signs):
    """Return the greatest number of questions that contents pass, and the least such contents."""
    return best_weighted(scheme, signs, [(question, 1) for question in range(scheme.questions)])


def best_against(scheme, signs, questions):
    """Return the greatest probability of passing a question of the distribution, and the least such contents."""
    for question, _ in questions.pairs:
        scheme.require_question(question)
    weight, contents = best_weighted(scheme, signs, questions.pairs)
    return (Ratio(weight, questions.total), contents)


def filling_for(scheme, signs, *questions):
    """Return the least contents that pass each of the questions, or None."""
    for question in questions:
        scheme.require_question(question)
    number, contents = best_weighted(scheme, signs, [(question, 1) for question in questions])
    return contents if number == len(questions) else None


def guess_filling(scheme, question, draw):
    """Return (contents, word) that hold the simulated reply to the question, and blanks elsewhere."""
    word, shown = scheme.simulate(question, draw)
    contents = [BLANK] * scheme.boxes
    for box, content in zip(scheme.boxes_for(question, word), shown):
        contents[box] = content
    return (tuple(contents), word)
