"""Statements: tuples that begin with the name of their kind."""

from provedunseen.errors import BadStatement

LEAST_RING_NODES = 3
MOST_INPUTS = 4
MOST_GATES = 6
LEAST_COLORS = 2
MOST_COLORS = 4
MOST_ATOMS = 4


def ring(graph):
    """State that a ring goes through all nodes of the graph."""
    if graph[0] < LEAST_RING_NODES:
        raise BadStatement(f"a ring needs a graph of at least {LEAST_RING_NODES} nodes")
    return ("ring", graph)


def alike(first, second):
    """State that a relabelling turns the first graph into the second one."""
    if first[0] != second[0]:
        raise BadStatement("graphs that are alike have the same number of nodes")
    return ("alike", first, second)


def circuit(inputs, gates):
    """State that the circuit gives 1 for some values of its inputs."""
    if inputs < 1 or inputs > MOST_INPUTS:
        raise BadStatement(f"a circuit has 1 to {MOST_INPUTS} inputs")
    if len(gates) < 1 or len(gates) > MOST_GATES:
        raise BadStatement(f"a circuit has 1 to {MOST_GATES} gates")
    for place, gate in enumerate(gates):
        if not is_gate(gate, inputs + place):
            raise BadStatement(f"the gate {place} is not one of this circuit")
    return ("circuit", inputs, tuple(gates))


def is_gate(gate, own):
    """Tell whether the gate may give the value of the wire with the number `own`."""
    if not isinstance(gate, tuple) or len(gate) == 0:
        return False
    if gate[0] not in ("not", "and", "or", "xor"):
        return False
    wires = gate[1:]
    if len(wires) != (1 if gate[0] == "not" else 2):
        return False
    return all([type(wire) is int and 0 <= wire < own for wire in wires])


def colors(graph, count):
    """State that the graph can be colored with so many colors."""
    if len(graph[1]) == 0:
        raise BadStatement("a graph that is colored has an edge")
    if count < LEAST_COLORS or count > MOST_COLORS:
        raise BadStatement(f"there are {LEAST_COLORS} to {MOST_COLORS} colors")
    return ("colors", graph, count)


def both(first, second):
    """State that both parts hold."""
    require_parts(first, second)
    return ("both", first, second)


def either(first, second):
    """State that at least one of the parts holds."""
    require_parts(first, second)
    return ("either", first, second)


def require_parts(first, second):
    """Raise BadStatement if the two statements may not be put together."""
    if first[0] == "colors" or second[0] == "colors":
        raise BadStatement("a colors statement is not a part of another one")
    if atom_count(first) + atom_count(second) > MOST_ATOMS:
        raise BadStatement(f"a statement has at most {MOST_ATOMS} atoms")


def atom_count(statement):
    """Return the number of atoms in the statement."""
    if statement[0] in ("both", "either"):
        return atom_count(statement[1]) + atom_count(statement[2])
    return 1


def require_kind(statement, kind):
    """Raise BadStatement if the statement is of another kind."""
    if statement[0] != kind:
        raise BadStatement(f"this is no statement of the kind {kind}")
