"""The scheme for an alike statement."""

from math import comb, factorial

from provedunseen.carried import swap_statement
from provedunseen.graphs import edge_table, relabel
from provedunseen.meaning import holds_atom
from provedunseen.perms import compose, inverse, is_permutation, permutation, permutation_number
from provedunseen.schemes import Scheme
from provedunseen.statements import require_kind


class AlikeScheme(Scheme):
    """The boxes hold the table of a graph, and how each of the two graphs is relabelled to it."""

    SHOW_FIRST = 0
    SHOW_SECOND = 1

    def __init__(self, statement):
        require_kind(statement, "alike")
        self.statement = statement
        self.nodes = statement[1][0]
        self.pairs = comb(self.nodes, 2)
        self.questions = 2
        self.boxes = self.pairs + 2 * self.nodes
        self.draws = factorial(self.nodes)

    def __invert__(self):
        return AlikeScheme(swap_statement(self.statement))

    def shown_graph(self, question, row):
        """Return the table of the graph of the question relabelled by the permutation, and this permutation."""
        return edge_table(relabel(self.statement[1 + question], row)) + row

    def holds(self, witness):
        """Tell whether the value is a witness of the statement."""
        return holds_atom(self.statement, witness)

    def fill(self, witness, draw):
        """Return the table of the first graph relabelled at the draw, and both permutations to it."""
        self.require_knower(witness, draw)
        row = permutation(self.nodes, draw)
        return self.shown_graph(self.SHOW_FIRST, row) + compose(inverse(witness), row)

    def word(self, witness, draw, question):
        """Return the empty word."""
        self.require_reply(question, witness, draw)
        return ()

    def words(self, question):
        """Return the empty word alone."""
        self.require_question(question)
        return [()]

    def word_length(self, question, word):
        """Return 0, the length of the empty word."""
        self.require_question(question)
        return 0

    def boxes_for(self, question, word):
        """Return the boxes of the table and of the permutation of the question; None for what is no word."""
        self.require_question(question)
        if word != ():
            return None
        start = self.pairs + question * self.nodes
        return tuple(range(self.pairs)) + tuple(range(start, start + self.nodes))

    def judge(self, question, word, shown):
        """Accept if the permutation relabels the graph of the question to the table."""
        self.require_question(question)
        if word != ():
            return False
        row = shown[self.pairs:]
        return len(row) == self.nodes and is_permutation(row) and shown == self.shown_graph(question, row)

    def simulate(self, question, draw):
        """Return the graph of the question relabelled at the draw."""
        self.require_simulated(question, draw)
        return ((), self.shown_graph(question, permutation(self.nodes, draw)))

    def find_draw(self, question, word, shown):
        """Return the only draw for which `simulate` returns this reply, or None."""
        if not self.judge(question, word, shown):
            return None
        return permutation_number(shown[self.pairs:])

    def matching_draw(self, witness, question, draw):
        """Return the draw at which `simulate` gives the reply of this knower at the given one."""
        self.require_reply(question, witness, draw)
        if question == self.SHOW_FIRST:
            return draw
        return permutation_number(compose(inverse(witness), permutation(self.nodes, draw)))

    def original_draw(self, witness, question, draw):
        """Return the draw whose matching draw is the given one."""
        self.require_reply(question, witness, draw)
        if question == self.SHOW_FIRST:
            return draw
        return permutation_number(compose(witness, permutation(self.nodes, draw)))

    def read(self, contents, words):
        """Return the permutation that relabels by the first one and undoes the second one."""
        _, first, second = self.divided(contents)
        return compose(first, inverse(second))

    def divided(self, contents):
        """Return the table, the first permutation and the second one."""
        start = self.pairs + self.nodes
        return (contents[:self.pairs], contents[self.pairs:start], contents[start:])

    def mirrored(self, contents):
        """Return the contents with the two permutations exchanged."""
        self.require_contents(contents)
        table, first, second = self.divided(contents)
        return table + second + first
