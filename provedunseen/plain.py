"""Plain talks: they tell the same as talks with responders, without boxes, logs and ledgers.

A deal of a plain talk is a tuple (session, place, question, reply, told): the place on the tape
of its number, its question or None, the reply to it or None, and whether this was revealed.
"""

from provedunseen.errors import TapeEnd
from provedunseen.programs import require_steps

# So many writes are enough for each move.
ALL_WRITES = 3


class PlainTalk:
    """A plain talk up to some step; the next step makes another one."""

    def __init__(self, state, deals, taken, view):
        self.state = state
        self.deals = deals
        self.taken = taken
        self.view = view


def first_cut(program, state):
    """Return how many writes the move of the state may make."""
    cuts = program.cuts(state)
    return cuts[0] if len(cuts) > 0 else ALL_WRITES


def due_question(schemes, program, talk):
    """Return (session, place, question) of the deal that gets this question in the next step, or None."""
    move = program.move(talk.state)
    if move[0] != "ask" or first_cut(program, talk.state) == 0:
        return None
    _, deal, question = move
    if not has_question(schemes, talk.deals, deal, question):
        return None
    session, place, fixed, _, _ = talk.deals[deal]
    return (session, place, question) if fixed is None else None


def has_question(schemes, deals, deal, question):
    """Tell whether the deal is there and its scheme has the question."""
    return deal < len(deals) and question < schemes[deals[deal][0]].questions


def next_talk(schemes, program, talk, reply):
    """Return the talk one step on; `reply` is that of the deal that gets its question in it."""
    move = program.move(talk.state)
    cut = first_cut(program, talk.state)
    if move[0] == "offer":
        taken = talk.taken + 1
        deals, letter = offered(talk, move[1] % len(schemes), cut)
        shown = ()
    else:
        _, deal, question = move
        taken = talk.taken
        deals, letter, shown = asked(schemes, talk.deals, deal, question, cut, reply)
    event = (letter, len(deals), shown)
    return PlainTalk(program(talk.state, event), deals, taken, talk.view + (event,))


def offered(talk, session, cut):
    """Return the deals and the letter behind an offer."""
    if cut == 0:
        return (talk.deals, ())
    letter = ("sealed", len(talk.deals), session) if cut >= ALL_WRITES else ()
    return (talk.deals + ((session, talk.taken, None, None, False),), letter)


def asked(schemes, deals, deal, question, cut, reply):
    """Return the deals, the letter and what is shown behind a question about a deal."""
    if cut == 0:
        return (deals, (), ())
    if not has_question(schemes, deals, deal, question):
        return (deals, ("none", deal), ())
    session, place, fixed, own, told = deals[deal]
    left = cut
    if fixed is None:
        fixed = question
        own = reply
        left -= 1
    word, contents = own
    boxes = schemes[session].boxes_for(fixed, word)
    shown = ()
    if not told and len(boxes) > 0 and left > 0:
        told = True
        left -= 1
        shown = tuple([(deal, box, content) for box, content in zip(boxes, contents)])
    letter = ("reply", deal, fixed, word) if left > 0 else ()
    changed = (session, place, fixed, own, told)
    return (deals[:deal] + (changed,) + deals[deal + 1:], letter, shown)


def new_talk():
    """Return the talk before the first step."""
    return PlainTalk(0, (), 0, ())


def talk_of(schemes, witnesses, numbers, program, steps):
    """Return the plain talk of so many steps; its replies are simulated if the witnesses are None."""
    require_steps(steps)
    talk = new_talk()
    for _ in range(steps):
        due = due_question(schemes, program, talk)
        reply = None if due is None else reply_of(schemes, witnesses, numbers, due)
        talk = next_talk(schemes, program, talk, reply)
        if talk.taken > len(numbers):
            raise TapeEnd("all numbers have been taken")
    return talk


def reply_of(schemes, witnesses, numbers, due):
    """Return the reply of a deal that gets its question."""
    session, place, question = due
    scheme = schemes[session]
    draw = numbers[place] % scheme.draws
    if witnesses is None:
        return scheme.simulate(question, draw)
    return scheme.reply(witnesses[session], draw, question)


def plain_view(schemes, numbers, program, steps):
    """Return the view of a plain talk with simulated replies."""
    return talk_of(schemes, None, numbers, program, steps).view


def plain_deals(schemes, witnesses, numbers, program, steps):
    """Return (session, place, question) for each deal at the end of a plain talk."""
    talk = talk_of(schemes, witnesses, numbers, program, steps)
    return tuple([(session, place, question) for session, place, question, _, _ in talk.deals])


def moved_tape(schemes, numbers, deals, moved):
    """Return the tape in which each deal with a question has the draw `moved(session, question, draw)`."""
    tape = list(numbers)
    for session, place, question in deals:
        if question is not None:
            draw = numbers[place] % schemes[session].draws
            # What the number has beyond its draw stays.
            tape[place] = numbers[place] - draw + moved(session, question, draw)
    return tuple(tape)


def matching_tape(schemes, witnesses, numbers, program, steps):
    """Return the tape at which the simulator has the view that the knower has at the given one."""
    deals = plain_deals(schemes, witnesses, numbers, program, steps)
    return moved_tape(schemes, numbers, deals, lambda session, question, draw: (
        schemes[session].matching_draw(witnesses[session], question, draw)
    ))


def original_tape(schemes, witnesses, numbers, program, steps):
    """Return the tape whose matching tape is the given one."""
    deals = plain_deals(schemes, None, numbers, program, steps)
    return moved_tape(schemes, numbers, deals, lambda session, question, draw: (
        schemes[session].original_draw(witnesses[session], question, draw)
    ))
