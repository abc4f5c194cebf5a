"""Colorings of graphs, good and bad ones, and the scheme for a colors statement."""

from math import factorial

from provedunseen.errors import BadContents, BadPermutation, BadWitness
from provedunseen.graphs import has_edge
from provedunseen.meaning import holds_atom
from provedunseen.perms import compose, inverse, is_permutation, permutation, permutation_number
from provedunseen.ratios import Ratio
from provedunseen.rows import rows_of
from provedunseen.schemes import Scheme
from provedunseen.statements import require_kind


def are_different_colors(first, second, count):
    """Tell whether the two integers are two different colors."""
    return first != second and 0 <= first < count and 0 <= second < count


def proper_edges(statement, contents):
    """Return the ascending tuple of the numbers of the edges with two different colors at their ends."""
    require_kind(statement, "colors")
    _, (nodes, edges), count = statement
    if len(contents) != nodes:
        raise BadContents("there must be one integer for each node")
    return tuple([
        number for number, (a, b) in enumerate(edges) if are_different_colors(contents[a], contents[b], count)
    ])


def recolor(coloring, row):
    """Return the coloring in which each entry c has become row[c]."""
    if not is_permutation(row):
        raise BadPermutation("this is no permutation of colors")
    if not all([0 <= color < len(row) for color in coloring]):
        raise BadWitness("an entry is not a color that the permutation changes")
    return tuple([row[color] for color in coloring])


def color_form(coloring):
    """Return the tuple with 0, 1, 2 and so on for its integers, in the order in which they first appear."""
    names = {}
    for color in coloring:
        if color not in names:
            names[color] = len(names)
    return tuple([names[color] for color in coloring])


def best_coloring(statement, *, start=()):
    """Return the greatest number of proper edges of a coloring with this start, and the least such coloring."""
    require_kind(statement, "colors")
    _, graph, count = statement
    if len(start) > graph[0]:
        raise BadWitness("there are more entries than nodes")
    if not all([0 <= color < count for color in start]):
        raise BadWitness("an entry is not a color")
    best = (-1, ())
    for rest in rows_of(graph[0] - len(start), count):
        coloring = start + rest
        number = len(proper_edges(statement, coloring))
        if number > best[0]:
            best = (number, coloring)
    return best


def best_chance(statement):
    """Return the ratio of the greatest number of proper edges to the number of edges."""
    number, _ = best_coloring(statement)
    return Ratio(number, len(statement[1][1]))


def quick_coloring(statement):
    """Return a coloring in which each node has the color that its earlier neighbours have least."""
    require_kind(statement, "colors")
    _, graph, count = statement
    coloring = ()
    for node in range(graph[0]):
        used = [color for other, color in enumerate(coloring) if has_edge(graph, other, node)]
        many = [used.count(color) for color in range(count)]
        coloring = coloring + (many.index(min(many)),)
    return coloring


class ColorScheme(Scheme):
    """The boxes hold the colors of the nodes, exchanged by chance: each question shows the ends of an edge."""

    def __init__(self, statement):
        require_kind(statement, "colors")
        _, (nodes, edges), count = statement
        self.statement = statement
        self.edges = edges
        self.colors = count
        self.questions = len(edges)
        self.boxes = nodes
        self.draws = factorial(count)

    def begun(self, first, second):
        """Return the permutation of the colors that begins with these two and goes on with the others."""
        return (first, second) + tuple([color for color in range(self.colors) if color not in (first, second)])

    def holds(self, witness):
        """Tell whether the value is a witness of the statement."""
        return holds_atom(self.statement, witness)

    def fill(self, witness, draw):
        """Return the colors of the nodes, exchanged by the permutation of the draw."""
        self.require_knower(witness, draw)
        return recolor(witness, permutation(self.colors, draw))

    def word(self, witness, draw, question):
        """Return the empty word."""
        self.require_reply(question, witness, draw)
        return ()

    def words(self, question):
        """Return the empty word alone."""
        self.require_question(question)
        return [()]

    def word_length(self, question, word):
        """Return 0, the length of the empty word."""
        self.require_question(question)
        return 0

    def boxes_for(self, question, word):
        """Return the boxes of the two ends of the edge; None for what is no word."""
        self.require_question(question)
        return self.edges[question] if word == () else None

    def judge(self, question, word, shown):
        """Accept two different colors."""
        self.require_question(question)
        return word == () and len(shown) == 2 and are_different_colors(shown[0], shown[1], self.colors)

    def simulate(self, question, draw):
        """Return the first two colors of the permutation of the draw."""
        self.require_simulated(question, draw)
        return ((), permutation(self.colors, draw)[:2])

    def find_draw(self, question, word, shown):
        """Return the least draw for which `simulate` returns this reply, or None."""
        if not self.judge(question, word, shown):
            return None
        return permutation_number(self.begun(shown[0], shown[1]))

    def ends(self, witness, question):
        """Return the permutation that begins with the witness's colors of the two ends of the edge."""
        a, b = self.edges[question]
        return self.begun(witness[a], witness[b])

    def matching_draw(self, witness, question, draw):
        """Return the draw at which `simulate` gives the reply of this knower at the given one."""
        self.require_reply(question, witness, draw)
        return permutation_number(compose(self.ends(witness, question), permutation(self.colors, draw)))

    def original_draw(self, witness, question, draw):
        """Return the draw whose matching draw is the given one."""
        self.require_reply(question, witness, draw)
        return permutation_number(compose(inverse(self.ends(witness, question)), permutation(self.colors, draw)))

    def read(self, contents, words):
        """Return the colors of all nodes that an edge joins to another one, and 0 for each other node."""
        joined = [node for edge in self.edges for node in edge]
        return tuple([content if node in joined else 0 for node, content in enumerate(contents)])
