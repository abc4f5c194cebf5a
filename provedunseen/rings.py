"""The scheme for a ring statement."""

from math import comb, factorial

from provedunseen.graphs import edge_table, is_ring_form, pair_place, relabel, ring_edges, ring_form, ring_forms
from provedunseen.meaning import holds_atom
from provedunseen.perms import compose, inverse, is_permutation, permutation, permutation_number
from provedunseen.schemes import Scheme
from provedunseen.statements import require_kind


class RingScheme(Scheme):
    """The boxes hold a permutation and the table of the graph relabelled by it.

    Either the whole of it is shown, or only the edges of a ring in the relabelled graph.
    """

    SHOW_GRAPH = 0
    SHOW_RING = 1

    def __init__(self, statement):
        require_kind(statement, "ring")
        self.statement = statement
        self.graph = statement[1]
        self.nodes = statement[1][0]
        self.questions = 2
        self.boxes = self.nodes + comb(self.nodes, 2)
        self.draws = factorial(self.nodes)

    def relabelled(self, row):
        """Return the permutation and the edge table of the graph relabelled by it."""
        return row + edge_table(relabel(self.graph, row))

    def holds(self, witness):
        """Tell whether the value is a witness of the statement."""
        return holds_atom(self.statement, witness)

    def fill(self, witness, draw):
        """Return the permutation of the draw and the table of the graph relabelled by it."""
        self.require_knower(witness, draw)
        return self.relabelled(permutation(self.nodes, draw))

    def word(self, witness, draw, question):
        """Return the empty word, or the form of the knower's ring in the relabelled graph."""
        self.require_reply(question, witness, draw)
        if question == self.SHOW_GRAPH:
            return ()
        return ring_form(compose(witness, permutation(self.nodes, draw)))

    def words(self, question):
        """Return the empty word alone, or the list of all forms of rings."""
        self.require_question(question)
        return [()] if question == self.SHOW_GRAPH else ring_forms(self.nodes)

    def word_length(self, question, word):
        """Return 0 for the graph; for the ring the number of nodes, or None if the tuple is shorter."""
        self.require_question(question)
        if question == self.SHOW_GRAPH:
            return 0
        return self.nodes if len(word) >= self.nodes else None

    def boxes_for(self, question, word):
        """Return all boxes, or those of the edges of the ring; None for what is no word."""
        self.require_question(question)
        if question == self.SHOW_GRAPH:
            return tuple(range(self.boxes)) if word == () else None
        if not is_ring_form(word, self.nodes):
            return None
        return tuple([self.nodes + pair_place(self.nodes, a, b) for a, b in ring_edges(word)])

    def judge(self, question, word, shown):
        """Accept the graph if it is relabelled by the permutation, the ring if all its pairs are edges."""
        boxes = self.boxes_for(question, word)
        if boxes is None or len(shown) != len(boxes):
            return False
        if question == self.SHOW_GRAPH:
            row = shown[:self.nodes]
            return is_permutation(row) and shown == self.relabelled(row)
        return all([content == 1 for content in shown])

    def simulate(self, question, draw):
        """Return the graph relabelled at the draw, or a ring that is made up."""
        self.require_simulated(question, draw)
        row = permutation(self.nodes, draw)
        if question == self.SHOW_GRAPH:
            return ((), self.relabelled(row))
        return (ring_form(row), (1,) * self.nodes)

    def find_draw(self, question, word, shown):
        """Return the least draw for which `simulate` returns this reply, or None."""
        if not self.judge(question, word, shown):
            return None
        # The form is the least one of the readings of a ring.
        return permutation_number(shown[:self.nodes] if question == self.SHOW_GRAPH else word)

    def matching_draw(self, witness, question, draw):
        """Return the draw at which `simulate` gives the reply of this knower at the given one."""
        self.require_reply(question, witness, draw)
        if question == self.SHOW_GRAPH:
            return draw
        return permutation_number(compose(witness, permutation(self.nodes, draw)))

    def original_draw(self, witness, question, draw):
        """Return the draw whose matching draw is the given one."""
        self.require_reply(question, witness, draw)
        if question == self.SHOW_GRAPH:
            return draw
        return permutation_number(compose(inverse(witness), permutation(self.nodes, draw)))

    def read(self, contents, words):
        """Return the ring of the graph that becomes the shown ring by the permutation."""
        row = contents[:self.nodes]
        return ring_form(compose(words[self.SHOW_RING], inverse(row)))

    def draws_around(self, word):
        """Yield, in ascending order, all draws at which `simulate` returns this word for the ring."""
        if is_ring_form(word, self.nodes):
            turned = [word[start:] + word[:start] for start in range(self.nodes)]
            readings = turned + [row[::-1] for row in turned]
            for draw in sorted([permutation_number(row) for row in readings]):
                yield draw
