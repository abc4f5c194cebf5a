"""Distributions of the views of programs, over all tapes of some length or without a tape."""

from math import lcm

from provedunseen.cheats import fillings_of
from provedunseen.distributions import Distribution
from provedunseen.errors import TooLarge
from provedunseen.plain import due_question, new_talk, next_talk
from provedunseen.programs import require_steps
from provedunseen.ratios import Ratio
from provedunseen.talks import knower_view, simulator_view

MOST_TAPES = 3000
MOST_BRANCHES = 3000


def tape_size(schemes):
    """Return the least common multiple of the numbers of draws."""
    return common_multiple([scheme.draws for scheme in schemes])


def common_multiple(numbers):
    """Return the least common multiple of the numbers."""
    size = 1
    for number in numbers:
        size = lcm(size, number)
    return size


def all_tapes(size, length):
    """Return the ascending list of all tuples of so many integers from 0 to size - 1."""
    many = 1
    for _ in range(length):
        many = many * size
        if many > MOST_TAPES:
            raise TooLarge(f"there are more than {MOST_TAPES} tapes")
    return list(fillings_of(length, size))


def view_distribution(schemes, witnesses, program, steps, length):
    """Return the distribution of the views of talks with a knower over all tapes of this length."""
    tapes = all_tapes(tape_size(schemes), length)
    return Distribution.even([knower_view(schemes, witnesses, tape, program, steps) for tape in tapes])


def simulated_view_distribution(schemes, program, steps, length):
    """Return the distribution of the views of talks with a simulator over all tapes of this length."""
    tapes = all_tapes(tape_size(schemes), length)
    return Distribution.even([simulator_view(schemes, tape, program, steps) for tape in tapes])


class Branching:
    """Goes on with the branches (talk, chance) of plain talks without a tape."""

    def __init__(self, schemes, program):
        self.schemes = schemes
        self.program = program
        # The simulated distribution for each (session, question) that was needed.
        self.known = {}

    def chances(self, session, question):
        """Return (reply, chance) for each simulated reply to the question."""
        key = (session, question)
        if key not in self.known:
            replies = self.schemes[session].simulated_distribution(question)
            self.known[key] = [(reply, Ratio(weight, replies.total)) for reply, weight in replies.pairs]
        return self.known[key]

    def grown(self, branches):
        """Return the branches one step on."""
        found = []
        for talk, chance in branches:
            due = due_question(self.schemes, self.program, talk)
            if due is None:
                found.append((next_talk(self.schemes, self.program, talk, None), chance))
            else:
                session, _, question = due
                for reply, share in self.chances(session, question):
                    found.append((next_talk(self.schemes, self.program, talk, reply), chance * share))
            if len(found) > MOST_BRANCHES:
                raise TooLarge(f"there are more than {MOST_BRANCHES} branches")
        return found


def along_distribution(schemes, program, steps):
    """Return the distribution of the views of plain talks that branch where a deal gets its question."""
    require_steps(steps)
    branching = Branching(schemes, program)
    branches = [(new_talk(), Ratio(1, 1))]
    for _ in range(steps):
        branches = branching.grown(branches)
    whole = common_multiple([chance.whole for _, chance in branches])
    return Distribution([(talk.view, chance.part * (whole // chance.whole)) for talk, chance in branches])
