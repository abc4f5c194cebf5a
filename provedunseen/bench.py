"""The bench: meetings that are told by a text, and reports of them."""

from provedunseen.building import scheme_of
from provedunseen.errors import BadBench, BadText, BadWitness
from provedunseen.meetings import GREATEST_NUMBER, MOST_DEALS, MOST_MOVES, NO_LIMIT, Meeting
from provedunseen.reader import DIGITS
from provedunseen.texts import parse_statement, parse_witness

MOST_DIGITS = 9
MOST_NUMBERS = 40
# The lines of the statement, the witness, the deals, the numbers and the coins.
HEAD = 5


def is_number(word):
    """Tell whether the word is a number without a leading zero."""
    if not 1 <= len(word) <= MOST_DIGITS or not all([sign in DIGITS for sign in word]):
        return False
    return word == "0" or word[0] != "0"


def is_small_number(word):
    """Tell whether the word is a number from 0 to 99."""
    return is_number(word) and int(word) <= GREATEST_NUMBER


def line_behind(lines, index, start):
    """Return what stands in the line behind its start."""
    if index >= len(lines) or not lines[index].startswith(start):
        raise BadBench(index)
    return lines[index][len(start):]


def read_statement(lines):
    """Return the statement of the first line."""
    text = line_behind(lines, 0, "statement ")
    try:
        return parse_statement(text)
    except BadText:
        raise BadBench(0) from None


def read_witness(lines, statement):
    """Return the witness of the second line."""
    text = line_behind(lines, 1, "witness ")
    try:
        return parse_witness(statement, text)
    except (BadText, BadWitness):
        raise BadBench(1) from None


def read_deals(lines):
    """Return the count of the third line."""
    word = line_behind(lines, 2, "deals ")
    if not is_number(word) or not 1 <= int(word) <= MOST_DEALS:
        raise BadBench(2)
    return int(word)


def read_tape(lines, index, start):
    """Return the numbers of a line that tells a tape."""
    words = line_behind(lines, index, start).split(" ")
    if len(words) > MOST_NUMBERS or not all([is_number(word) for word in words]):
        raise BadBench(index)
    return tuple([int(word) for word in words])


def scheduled_move(line):
    """Return the move (kind, number, cut) that the line tells, or None."""
    words = line.split(" ")
    cut = NO_LIMIT
    if len(words) > 2 and words[-2] == "cut" and is_small_number(words[-1]):
        cut = int(words[-1])
        words = words[:-2]
    if words in (["offer"], ["crash"]):
        return (words[0], 0, cut)
    if len(words) == 2 and words[0] == "deliver" and is_small_number(words[1]):
        return ("deliver", int(words[1]), cut)
    return None


def read_schedule(lines):
    """Return the moves of all lines behind the first five."""
    schedule = []
    for index, line in enumerate(lines[HEAD:], start=HEAD):
        move = scheduled_move(line)
        if move is None or len(schedule) == MOST_MOVES:
            raise BadBench(index)
        schedule.append(move)
    return schedule


def report_lines(meeting):
    """Return the lines that tell how far the meeting is."""
    asker = meeting.asker
    lines = []
    for deal, question in asker.questions.items():
        word = "open"
        if deal in asker.bits:
            word = "good" if asker.bits[deal] == 1 else "bad"
        lines.append(f"deal {deal:>2} question {question:>2} {word}")
    return [*lines, f"verdict {meeting.verdict}"]


def report(text):
    """Carry out the meeting that the text tells, and report on it before and behind its finish."""
    lines = text.split("\n")
    statement = read_statement(lines)
    witness = read_witness(lines, statement)
    count = read_deals(lines)
    numbers = read_tape(lines, 3, "numbers ")
    coins = read_tape(lines, 4, "coins ")
    schedule = read_schedule(lines)
    meeting = Meeting(scheme_of(statement), witness, count, numbers, coins)
    meeting.run(schedule)
    before = report_lines(meeting)
    meeting.finish()
    return "\n".join([*before, *report_lines(meeting)])
