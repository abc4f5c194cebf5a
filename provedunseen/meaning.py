"""What statements mean: the wires of circuits, and which values are witnesses."""

from provedunseen.errors import BadWitness
from provedunseen.graphs import has_edge, is_ring_form, ring_edges
from provedunseen.perms import is_permutation
from provedunseen.statements import require_kind


def gate_value(name, first, second=0):
    """Return the bit that a gate of this name gives for the bits that it reads."""
    if name == "not":
        return 1 - first
    if name == "and":
        return first & second
    if name == "or":
        return first | second
    return first ^ second


def wire_values(statement, bits):
    """Return the values of all wires of a circuit for these values of its inputs."""
    require_kind(statement, "circuit")
    _, inputs, gates = statement
    if not is_bits(bits, inputs):
        raise BadWitness("there must be one bit for each input")
    values = list(bits)
    for gate in gates:
        # The last wire of a "not" is its only one: then the second value is ignored.
        values.append(gate_value(gate[0], values[gate[1]], values[gate[-1]]))
    return tuple(values)


def is_row(value, size):
    """Tell whether the value is a tuple of so many integers."""
    return isinstance(value, tuple) and len(value) == size and all([type(entry) is int for entry in value])


def is_bits(value, size):
    """Tell whether the value is a tuple of so many bits."""
    return is_row(value, size) and all([bit in (0, 1) for bit in value])


def holds(statement, witness):
    """Tell whether the value, an integer or any nested tuple of integers, is a witness of the statement."""
    if statement[0] in ("both", "either"):
        return isinstance(witness, tuple) and len(witness) == 2 and holds_join(statement, witness)
    return holds_atom(statement, witness)


def holds_atom(atom, witness):
    """Tell whether the value is a witness of the atom."""
    return has_form(atom, witness) and fits(atom, witness)


def holds_join(statement, witness):
    """Tell whether the pair is a witness of a both or either statement."""
    kind, first, second = statement
    if kind == "both":
        return holds(first, witness[0]) and holds(second, witness[1])
    choice, reason = witness
    return type(choice) is int and choice in (0, 1) and holds(statement[1 + choice], reason)


def has_form(statement, value):
    """Tell whether the value is one of the tuples among which the witnesses of an atom are."""
    kind = statement[0]
    if kind == "circuit":
        return is_bits(value, statement[1])
    nodes = statement[1][0]
    if not is_row(value, nodes):
        return False
    if kind == "ring":
        return is_ring_form(value, nodes)
    if kind == "alike":
        return is_permutation(value)
    return all([0 <= color < statement[2] for color in value])


def fits(statement, row):
    """Tell whether a tuple of the form that `has_form` asks for is a witness of the atom."""
    kind = statement[0]
    if kind == "ring":
        return all([edge in statement[1][1] for edge in ring_edges(row)])
    if kind == "alike":
        return turns_into(statement[1], statement[2], row)
    if kind == "circuit":
        return wire_values(statement, row)[-1] == 1
    return all([row[a] != row[b] for a, b in statement[1][1]])


def turns_into(first, second, row):
    """Tell whether the permutation relabels the first graph to the second one."""
    if len(first[1]) != len(second[1]):
        return False
    return all([has_edge(second, row[a], row[b]) for a, b in first[1]])
