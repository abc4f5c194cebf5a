"""Talks of programs with responders, and what a program sees in them."""

from provedunseen.ledgers import Budget, Ledger, SimulatedLedger, Tape
from provedunseen.programs import require_steps
from provedunseen.responders import Knower, Simulator, attempt
from provedunseen.writers import cut_at


def revealed_boxes(responder):
    """Return the ascending list of (deal, box, content) for all revealed boxes."""
    ledger = responder.ledger
    return [(deal, box, content) for deal in range(len(responder.deals)) for box, content in ledger.shown(deal)]


def carried_move(responder, move):
    """Return the move of a program with the session that the responder has for it."""
    if move[0] == "offer":
        return ("offer", move[1] % len(responder.schemes))
    return move


def step_event(responder, move, cuts):
    """Let the responder carry out the move of a program, through all crashes, and return the event."""
    known = revealed_boxes(responder)
    posted = len(responder.ledger.letters)
    ended = attempt(responder, carried_move(responder, move), writes=cut_at(cuts, 0))
    restarts = 0
    while not ended:
        restarts += 1
        ended = attempt(responder, ("restart",), writes=cut_at(cuts, restarts))
    # No move posts more than one letter, and no restart posts any.
    letters = responder.ledger.letters[posted:]
    letter = letters[0] if len(letters) > 0 else ()
    shown = [told for told in revealed_boxes(responder) if told not in known]
    return (letter, responder.ledger.sealed, tuple(shown))


def view_of(responder, program, steps):
    """Return the events of a talk of so many steps."""
    require_steps(steps)
    events = []
    state = 0
    for _ in range(steps):
        event = step_event(responder, program.move(state), program.cuts(state))
        events.append(event)
        state = program(state, event)
    return tuple(events)


def knower_view(schemes, witnesses, numbers, program, steps, *, careful=True):
    """Return the view of a program that talks to a new knower."""
    knower = Knower(schemes, witnesses, Tape(numbers), [], Ledger(), Budget(), careful=careful)
    return view_of(knower, program, steps)


def simulator_view(schemes, numbers, program, steps):
    """Return the view of a program that talks to a new simulator."""
    simulator = Simulator(schemes, Tape(numbers), [], SimulatedLedger(), Budget())
    return view_of(simulator, program, steps)
