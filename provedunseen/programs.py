"""Programs: they stand for curious askers, who decide by all that they have seen what to do next."""

from provedunseen.errors import BadProgram

MOST_STATES = 6
MOST_SESSION = 2
MOST_NUMBER = 9
MOST_CUTS = 3
MOST_FOLLOWERS = 6
MOST_STEPS = 8


def is_move(move):
    """Tell whether the tuple is a move of a program."""
    if len(move) == 2:
        return move[0] == "offer" and 0 <= move[1] <= MOST_SESSION
    return len(move) == 3 and move[0] == "ask" and all([0 <= number <= MOST_NUMBER for number in move[1:]])


def is_state(state, many):
    """Tell whether the tuple is a state of a program with so many states."""
    if len(state) != 3:
        return False
    move, cuts, followers = state
    if not is_move(move) or len(cuts) > MOST_CUTS or not 1 <= len(followers) <= MOST_FOLLOWERS:
        return False
    return all([0 <= cut <= MOST_NUMBER for cut in cuts]) and all([0 <= number < many for number in followers])


def digest(event):
    """Return an integer from 0 to 1008 made of the integers of the event."""
    letter, seals, shown = event
    numbers = [seals]
    if len(letter) > 0 and letter[0] == "reply":
        _, _, question, word = letter
        numbers.extend([question, *word])
    numbers.extend([content for _, _, content in shown])
    value = 0
    for number in numbers:
        value = (value * 7 + number + 2) % 1009
    return value


class Program:
    """States (move, cuts, followers), of which each event of a talk chooses the next one."""

    def __init__(self, states):
        if not 1 <= len(states) <= MOST_STATES:
            raise BadProgram(f"a program has 1 to {MOST_STATES} states")
        if not all([is_state(state, len(states)) for state in states]):
            raise BadProgram("a state is not as described")
        self.states = tuple(states)

    def __call__(self, state, event):
        """Return the number of the state that follows the event."""
        followers = self.states[state][2]
        return followers[digest(event) % len(followers)]

    def move(self, state):
        """Return the move of the state with this number."""
        return self.states[state][0]

    def cuts(self, state):
        """Return the cuts of the state with this number."""
        return self.states[state][1]


def require_steps(steps):
    """Raise BadProgram if a talk cannot have so many steps."""
    if not 0 <= steps <= MOST_STEPS:
        raise BadProgram(f"a talk has 0 to {MOST_STEPS} steps")
