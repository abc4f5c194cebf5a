"""Programs for the tests, and what they see, worked out by the words of the document."""

import random

from journals import Model
from provedunseen.building import scheme_of
from provedunseen.errors import TapeEnd
from provedunseen.statements import alike, both, circuit, colors, either, ring
from provedunseen.tables import TableScheme
from samples import AND, EDGE, EMPTY, OR, cycle, full
from table_samples import COINS, WORDS, made

POINT = scheme_of(alike(EMPTY, EMPTY))
EDGES = scheme_of(alike(EDGE, EDGE))
OF_OR = scheme_of(OR)
RING = scheme_of(ring(cycle(4)))
COLORS = scheme_of(colors(full(3), 3))
EITHER = scheme_of(either(alike(EDGE, EDGE), OR))
BOTH = scheme_of(both(AND, OR))
NOT = scheme_of(circuit(1, [("not", 0)]))
# Question 0 reveals nothing, question 1 box 0, question 2 both boxes.
QUIET = TableScheme(2, 2, (
    (((), ((),)),), (((0,), ((0,), (1,))),), (((0, 1), ((0, 0), (1, 1))),),
), ((((0, 0), (0, 0, 0)), ((1, 1), (0, 0, 0))), (((1, 1), (0, 0, 0)), ((0, 0), (0, 0, 0)))))
# Each is a list of schemes, with two lists of witnesses for them.
SETS = [
    ([EDGES], [(0, 1)], [(1, 0)]),
    ([OF_OR], [(0, 1)], [(1, 1)]),
    ([QUIET, EDGES], [0, (0, 1)], [1, (1, 0)]),
    ([EITHER], [(0, (1, 0))], [(1, (1, 1))]),
    ([made(COINS), POINT, NOT], [0, (0,), (0,)], [1, (0,), (0,)]),
    ([COLORS, made(WORDS)], [(0, 1, 2), 0], [(2, 0, 1), 1]),
    ([RING], [(0, 1, 2, 3)], [(0, 1, 2, 3)]),
    ([BOTH, OF_OR], [((1, 1), (0, 1)), (1, 0)], [((1, 1), (1, 1)), (0, 1)]),
]


def random_states(chance):
    """The states of some program, which begins with an offer."""
    many = chance.randint(1, 6)
    states = []
    for place in range(many):
        if place == 0 or chance.random() < 0.3:
            move = ("offer", chance.randint(0, 2))
        else:
            move = ("ask", chance.choice((0, 0, 0, 1, 1, 2, 9)), chance.choice((0, 0, 1, 1, 2, 3, 9)))
        cuts = tuple(chance.choice((0, 1, 2, 3, 9)) for _ in range(chance.choice((0, 0, 1, 2, 3))))
        followers = tuple(chance.randrange(many) for _ in range(chance.randint(1, 6)))
        states.append((move, cuts, followers))
    return states


def digest_by_hand(event):
    letter, seals, shown = event
    numbers = [seals]
    if letter[:1] == ("reply",):
        numbers += [letter[2], *letter[3]]
    numbers += [content for _, _, content in shown]
    # The digits of the digest in the number system with base 7.
    return sum((number + 2) * 7 ** (len(numbers) - 1 - place) for place, number in enumerate(numbers)) % 1009


def view_by_hand(kind, schemes, witnesses, numbers, states, steps):
    """The view of a program, by the writes that a responder of this kind makes."""
    model, rest, state, view = Model(kind, schemes, witnesses), list(numbers), 0, []
    for _ in range(steps):
        move, cuts, followers = states[state]
        cuts, start = list(cuts), len(model.written)
        known = {(deal, box) for deal in range(len(model.deals())) for box in model.revealed(deal)}
        if move[0] == "offer":
            session = move[1] % len(schemes)
            if not rest:
                raise TapeEnd("no number is left")
            writes = model.offer(session, rest.pop(0) % schemes[session].draws)
        else:
            writes = model.ask(move[1], move[2])
        while not carried(model, writes, cuts):
            writes = model.restart()
        made_now = model.written[start:]
        letters = [what[0] for name, *what in made_now if name == "letter"]
        assert len(letters) <= 1
        shown = {(what[0], box): content_of(model, what, at)
                 for name, *what in made_now if name == "reveal" for at, box in enumerate(what[1])}
        event = (letters[0] if letters else (), len(model.sealed()),
                 tuple((*key, shown[key]) for key in sorted(shown) if key not in known))
        view.append(event)
        state = followers[digest_by_hand(event) % len(followers)]
    return tuple(view)


def carried(model, writes, cuts):
    """Make as many of the writes as the next cut allows; tell whether these are all of them."""
    cut = cuts.pop(0) if cuts else len(writes)
    model.written.extend(writes[:cut])
    return cut >= len(writes)


def content_of(model, what, at):
    """The content of a revealed box."""
    deal, boxes, contents = what
    if contents is not None:
        return contents[at]
    session, draw, _ = model.deals()[deal]
    return model.schemes[session].fill(model.witnesses[session], draw)[boxes[at]]


def talks(seed, many):
    """Some (schemes, witnesses, other witnesses, states, numbers, steps)."""
    chance = random.Random(seed)
    for at in range(many):
        schemes, witnesses, others = SETS[at % len(SETS)]
        steps = chance.randint(0, 8)
        numbers = tuple(chance.randrange(3000) for _ in range(steps))
        yield schemes, witnesses, others, random_states(chance), numbers, steps
