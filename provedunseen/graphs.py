"""Graphs of up to six nodes, and rings through all nodes."""

from math import factorial

from provedunseen.errors import BadGraph, BadPermutation
from provedunseen.perms import is_permutation, permutation

MOST_NODES = 6
LEAST_RING = 3


def make_graph(nodes, edges):
    """Make the graph of a list of pairs, which may stand in any order and either way round."""
    if nodes < 1 or nodes > MOST_NODES:
        raise BadGraph(f"a graph has 1 to {MOST_NODES} nodes")
    joined = []
    for a, b in edges:
        edge = (min(a, b), max(a, b))
        if edge[0] < 0 or edge[1] >= nodes:
            raise BadGraph("an end of an edge is not a node")
        if a == b:
            raise BadGraph("an edge joins two different nodes")
        if edge in joined:
            raise BadGraph("two edges join the same nodes")
        joined.append(edge)
    return (nodes, tuple(sorted(joined)))


def has_edge(graph, a, b):
    """Tell whether an edge joins the two nodes, in either order."""
    return (min(a, b), max(a, b)) in graph[1]


def node_pairs(nodes):
    """Return the ascending list of all pairs of nodes, the lower node first."""
    return [(a, b) for a in range(nodes) for b in range(a + 1, nodes)]


def pair_place(nodes, a, b):
    """Return the index of the pair of two different nodes in `node_pairs`."""
    return node_pairs(nodes).index((min(a, b), max(a, b)))


def edge_table(graph):
    """Return 1 for each pair of nodes that is an edge, and 0 for each other pair."""
    nodes, edges = graph
    return tuple([1 if pair in edges else 0 for pair in node_pairs(nodes)])


def relabel(graph, row):
    """Return the graph in which each node a is called row[a]."""
    nodes, edges = graph
    if len(row) != nodes or not is_permutation(row):
        raise BadPermutation("this is no permutation of the nodes")
    return make_graph(nodes, [(row[a], row[b]) for a, b in edges])


def is_ring(row):
    """Tell whether the tuple of integers, read around, is a ring."""
    return len(row) >= LEAST_RING and is_permutation(row)


def require_ring(row):
    """Raise BadPermutation if the tuple of integers is no ring."""
    if not is_ring(row):
        raise BadPermutation(f"a ring is a permutation of a size from {LEAST_RING} to {MOST_NODES}")


def ring_form(row):
    """Return the reading of the ring that begins with 0 and has its second entry below its last."""
    require_ring(row)
    start = row.index(0)
    form = row[start:] + row[:start]
    if form[1] > form[-1]:
        form = form[:1] + form[:0:-1]
    return form


def ring_edges(row):
    """Return the ascending tuple of the edges between neighbours in the ring."""
    require_ring(row)
    return tuple(sorted([(min(a, b), max(a, b)) for a, b in zip(row, row[1:] + row[:1])]))


def is_ring_form(row, size):
    """Tell whether the tuple of integers is the form of a ring of so many entries."""
    return len(row) == size and is_ring(row) and ring_form(row) == row


def ring_forms(size):
    """Return the ascending list of the forms of all rings of this size."""
    if size < LEAST_RING or size > MOST_NODES:
        raise BadPermutation(f"a ring has {LEAST_RING} to {MOST_NODES} entries")
    # The permutations that begin with 0 are the first ones in ascending order.
    rows = [permutation(size, number) for number in range(factorial(size - 1))]
    return [row for row in rows if row[1] < row[-1]]
