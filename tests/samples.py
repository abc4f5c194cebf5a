"""Statements for the tests, and their witnesses found in a way of their own."""

import itertools

from provedunseen.graphs import make_graph
from provedunseen.statements import alike, both, circuit, colors, either, ring


def full(nodes):
    """The graph with all edges."""
    return make_graph(nodes, list(itertools.combinations(range(nodes), 2)))


def cycle(nodes):
    """The graph of one ring, 0 to nodes - 1."""
    return make_graph(nodes, [(a, (a + 1) % nodes) for a in range(nodes)])


def path(nodes):
    """The graph of one path, 0 to nodes - 1."""
    return make_graph(nodes, [(a, a + 1) for a in range(nodes - 1)])


EMPTY = make_graph(1, [])
EDGE = make_graph(2, [(0, 1)])
STAR = make_graph(4, [(0, 1), (0, 2), (0, 3)])
MOVED_STAR = make_graph(4, [(2, 0), (2, 1), (2, 3)])
HOUSE = make_graph(5, [(0, 1), (1, 2), (2, 3), (3, 4), (4, 0), (1, 4)])
PRISM = make_graph(6, [(0, 1), (1, 2), (0, 2), (3, 4), (4, 5), (3, 5), (0, 3), (1, 4), (2, 5)])

RINGS = [ring(graph) for graph in (
    full(3), path(3), full(4), cycle(4), STAR, make_graph(4, []), HOUSE, full(5), PRISM, cycle(6), full(6),
)]
ALIKES = [alike(first, second) for first, second in (
    (EMPTY, EMPTY), (EDGE, EDGE), (make_graph(2, []), EDGE), (make_graph(2, []), make_graph(2, [])),
    (STAR, MOVED_STAR), (STAR, path(4)), (path(3), make_graph(3, [(0, 2), (0, 1)])), (HOUSE, HOUSE),
    (PRISM, PRISM), (cycle(6), make_graph(6, [(0, 1), (1, 2), (0, 2), (3, 4), (4, 5), (3, 5)])),
)]
CIRCUITS = [circuit(inputs, gates) for inputs, gates in (
    (1, [("not", 0)]), (1, [("xor", 0, 0)]), (1, [("or", 0, 0)]), (2, [("and", 0, 1)]), (2, [("or", 1, 0)]),
    (2, [("xor", 0, 1), ("not", 2)]), (3, [("and", 0, 2), ("or", 3, 1), ("not", 4)]),
    (4, [("and", 0, 1), ("and", 2, 3), ("xor", 4, 5), ("not", 6), ("or", 7, 0), ("and", 8, 8)]),
    (4, [("xor", 0, 3)]), (1, [("not", 0), ("and", 0, 1)]),
)]
COLORS = [colors(graph, count) for graph, count in (
    (EDGE, 2), (EDGE, 4), (full(3), 2), (full(3), 3), (STAR, 2), (full(4), 3), (full(4), 4), (HOUSE, 3),
    (PRISM, 3), (make_graph(6, [(2, 4)]), 2), (full(5), 4),
)]
ATOMS = RINGS + ALIKES + CIRCUITS + COLORS
TRUE_RING, FALSE_RING = ring(cycle(4)), ring(STAR)
SMALL = alike(STAR, MOVED_STAR)
AND, OR, NEVER = circuit(2, [("and", 0, 1)]), circuit(2, [("or", 0, 1)]), circuit(1, [("xor", 0, 0)])
JOINS = [
    both(TRUE_RING, AND), both(AND, TRUE_RING), both(OR, OR), both(FALSE_RING, OR), both(OR, NEVER),
    either(OR, SMALL), either(NEVER, AND), either(AND, FALSE_RING), either(NEVER, FALSE_RING), either(OR, OR),
    both(either(OR, AND), SMALL), both(OR, either(AND, alike(EDGE, EDGE))), either(both(OR, AND), both(AND, OR)),
    either(either(OR, AND), AND), either(OR, either(AND, OR)), both(both(OR, AND), OR), both(OR, both(AND, OR)),
    both(either(both(OR, OR), AND), OR), either(both(either(OR, NEVER), OR), NEVER),
    both(both(OR, AND), both(TRUE_RING, OR)), either(either(either(AND, NEVER), OR), SMALL),
    either(AND, either(both(NEVER, OR), OR)), both(either(OR, AND), either(AND, OR)),
    both(either(NEVER, FALSE_RING), OR), either(both(NEVER, OR), both(OR, AND)),
    both(OR, alike(EMPTY, EMPTY)), either(alike(EMPTY, EMPTY), ring(full(3))),
]
STATEMENTS = ATOMS + JOINS


def joined(graph):
    """The edges of a graph as sets, since an edge has no direction."""
    return {frozenset(edge) for edge in graph[1]}


def is_ring_witness(graph, row):
    around = {frozenset((row[k], row[(k + 1) % len(row)])) for k in range(len(row))}
    return row[0] == 0 and row[1] < row[-1] and around <= joined(graph)


def output(inputs, gates, bits):
    """The bit that the circuit gives."""
    tables = {"and": (0, 0, 0, 1), "or": (0, 1, 1, 1), "xor": (0, 1, 1, 0)}
    wires = dict(enumerate(bits))
    for k, (name, *read) in enumerate(gates):
        values = [wires[wire] for wire in read]
        wires[inputs + k] = (1, 0)[values[0]] if name == "not" else tables[name][2 * values[0] + values[1]]
    return wires[inputs + len(gates) - 1]


def all_witnesses(statement):
    """The list of all witnesses in ascending order."""
    kind, first = statement[0], statement[1]
    if kind == "both":
        return [(u, v) for u in all_witnesses(first) for v in all_witnesses(statement[2])]
    if kind == "either":
        return [(0, u) for u in all_witnesses(first)] + [(1, v) for v in all_witnesses(statement[2])]
    if kind == "circuit":
        rows = itertools.product((0, 1), repeat=first)
        return [row for row in rows if output(first, statement[2], row) == 1]
    if kind == "colors":
        rows = itertools.product(range(statement[2]), repeat=first[0])
        return [row for row in rows if all(row[a] != row[b] for a, b in first[1])]
    rows = itertools.permutations(range(first[0]))
    if kind == "ring":
        return [row for row in rows if is_ring_witness(first, row)]
    return [row for row in rows
            if {frozenset((row[a], row[b])) for a, b in first[1]} == joined(statement[2])]
