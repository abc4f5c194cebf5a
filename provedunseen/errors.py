"""The errors of the program: each is derived from UnseenError directly."""


class UnseenError(ValueError):
    """The base class of all errors of the program."""


class BadRatio(UnseenError):
    """A ratio with a whole of 0, or a number of times that is out of range."""


class BadWeight(UnseenError):
    """A weight below 1."""


class EmptyDistribution(UnseenError):
    """A distribution without any key."""


class BadPermutation(UnseenError):
    """A tuple that is no permutation, or not one of the size that is needed."""


class BadDraw(UnseenError):
    """A number that no draw, permutation or witness has."""


class BadGraph(UnseenError):
    """Nodes and pairs that make no graph."""


class BadStatement(UnseenError):
    """A statement that breaks its condition or is of another kind."""


class BadWitness(UnseenError):
    """A value that is no witness."""


class BadQuestion(UnseenError):
    """A question that is not one of the scheme."""


class BadContents(UnseenError):
    """Contents that do not fit the boxes."""


class TooLarge(UnseenError):
    """More than what is gone through or listed."""


class NothingExtracted(UnseenError):
    """Contents and words from which no witness can be read."""


class BadTable(UnseenError):
    """Data that make no table."""


class LeakyTable(UnseenError):
    """A table whose replies tell witnesses apart."""


class BadPlan(UnseenError):
    """A plan that does not fit the scheme and the deals."""


class Crash(UnseenError):
    """No write is left."""


class TapeEnd(UnseenError):
    """All entries of a tape have been taken."""


class AlreadySealed(UnseenError):
    """A deal or a box that has its contents already."""


class NotSealed(UnseenError):
    """A deal that is not sealed."""


class BadBox(UnseenError):
    """A box that the deal does not have."""


class BadSession(UnseenError):
    """A session that the responder does not have."""


class BadProgram(UnseenError):
    """States that make no program, or a number of steps out of range."""


class BadSchedule(UnseenError):
    """Moves, cuts or counts that are out of range."""


class BadText(UnseenError):
    """A text that breaks a rule: `at` is the index that the rule tells."""

    def __init__(self, at):
        super().__init__(f"the text breaks a rule at {at}")
        self.at = at


class BadLog(UnseenError):
    """A log with an impossible row: `place` is the index of the first one."""

    def __init__(self, place):
        super().__init__(f"the log has an impossible row at {place}")
        self.place = place


class BadBench(UnseenError):
    """A text that tells no meeting: `line` is the index of the first wrong line."""

    def __init__(self, line):
        super().__init__(f"the line {line} is missing or not as described")
        self.line = line
