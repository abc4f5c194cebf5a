"""The texts of statements and witnesses, written and read."""

from provedunseen.errors import BadText, BadWitness
from provedunseen.meaning import holds
from provedunseen.reader import Reader
from provedunseen.statements import MOST_ATOMS, MOST_GATES, alike, atom_count, both, circuit, colors, either, ring


def format_statement(statement):
    """Return the text of a statement."""
    kind = statement[0]
    if kind in ("both", "either"):
        return f"{kind}({format_statement(statement[1])}, {format_statement(statement[2])})"
    if kind == "circuit":
        gates = ", ".join([spaced(gate) for gate in statement[2]])
        return f"circuit({statement[1]}; {gates})"
    nodes, edges = statement[1]
    if kind == "ring":
        return f"ring({nodes}; {format_edges(edges)})"
    if kind == "alike":
        return f"alike({nodes}; {format_edges(edges)}; {format_edges(statement[2][1])})"
    return f"colors({nodes}; {format_edges(edges)}; {statement[2]})"


def format_edges(edges):
    """Return the text of the edges of a graph."""
    if len(edges) == 0:
        return "-"
    return " ".join([f"{a}-{b}" for a, b in edges])


def spaced(row):
    """Return the entries of the tuple with one blank between two of them."""
    return " ".join([str(entry) for entry in row])


def parse_statement(text):
    """Return the statement that has this text."""
    reader = Reader(text)
    statement = read_statement(reader, MOST_ATOMS)
    reader.finish()
    return statement


def read_statement(reader, room):
    """Read a statement of at most so many atoms."""
    pieces = ["ring(", "alike(", "circuit("]
    if reader.place == 0:
        pieces.append("colors(")
    if room >= 2:
        pieces.extend(["both(", "either("])
    start = reader.piece(*pieces)
    if start == "ring(":
        return read_ring(reader)
    if start == "alike(":
        return read_alike(reader)
    if start == "circuit(":
        return read_circuit(reader)
    if start == "colors(":
        return read_colors(reader)
    first, second = read_parts(reader, room)
    return both(first, second) if start == "both(" else either(first, second)


def read_ring(reader):
    """Read a ring statement behind its first piece."""
    nodes = reader.number(least=3, most=6)
    reader.piece("; ")
    return ring(read_graph(reader, nodes, ")"))


def read_alike(reader):
    """Read an alike statement behind its first piece."""
    nodes = reader.number(least=1, most=6)
    reader.piece("; ")
    first = read_graph(reader, nodes, "; ")
    return alike(first, read_graph(reader, nodes, ")"))


def read_colors(reader):
    """Read a colors statement behind its first piece."""
    nodes = reader.number(least=2, most=6)
    reader.piece("; ")
    graph = read_joined_graph(reader, nodes, "; ")
    count = reader.number(least=2, most=4)
    reader.piece(")")
    return colors(graph, count)


def read_circuit(reader):
    """Read a circuit behind its first piece."""
    inputs = reader.number(least=1, most=4)
    reader.piece("; ")
    gates = [read_gate(reader, inputs)]
    while len(gates) < MOST_GATES and reader.piece(", ", ")") == ", ":
        gates.append(read_gate(reader, inputs + len(gates)))
    # With fewer gates, the loop has ended by reading this piece.
    if len(gates) == MOST_GATES:
        reader.piece(")")
    return circuit(inputs, gates)


def read_parts(reader, room):
    """Read the two parts of a both or either statement behind its first piece."""
    first = read_statement(reader, room - 1)
    reader.piece(", ")
    second = read_statement(reader, room - atom_count(first))
    reader.piece(")")
    return (first, second)


def read_graph(reader, nodes, end):
    """Read the edges of a graph, which may have none, and the piece that ends them."""
    if not reader.follows("-"):
        return read_joined_graph(reader, nodes, end)
    reader.piece("-")
    reader.piece(end)
    return (nodes, ())


def read_joined_graph(reader, nodes, end):
    """Read the edges of a graph, at least one, and the piece that ends them."""
    edges = [read_edge(reader, nodes, (-1, -1))]
    while reader.piece(" ", end) == " ":
        edges.append(read_edge(reader, nodes, edges[-1]))
    return (nodes, tuple(edges))


def read_edge(reader, nodes, before):
    """Read an edge that is greater than the pair `before`."""
    start = reader.place
    first = reader.number(most=nodes - 1)
    reader.piece("-")
    second = reader.number(most=nodes - 1)
    if first >= second or (first, second) <= before:
        raise BadText(start)
    return (first, second)


def read_gate(reader, own):
    """Read the gate that gives the value of the wire with the number `own`."""
    start = reader.piece("not ", "and ", "or ", "xor ")
    first = reader.number(most=own - 1)
    if start == "not ":
        return ("not", first)
    reader.piece(" ")
    return (start.strip(), first, reader.number(most=own - 1))


def format_witness(witness):
    """Return the text of a witness."""
    first = witness[0]
    if isinstance(first, tuple):
        return f"[{format_witness(first)}, {format_witness(witness[1])}]"
    if isinstance(witness[-1], tuple):
        side = "left" if first == 0 else "right"
        return f"{side} {format_witness(witness[1])}"
    return spaced(witness)


def parse_witness(statement, text):
    """Return the witness of the statement that has this text."""
    reader = Reader(text)
    witness = read_witness(reader, statement)
    reader.finish()
    if not holds(statement, witness):
        raise BadWitness("this is no witness of the statement")
    return witness


def read_witness(reader, statement):
    """Read what has the form of a witness of the statement."""
    kind = statement[0]
    if kind == "both":
        reader.piece("[")
        first = read_witness(reader, statement[1])
        reader.piece(", ")
        second = read_witness(reader, statement[2])
        reader.piece("]")
        return (first, second)
    if kind == "either":
        if reader.piece("left ", "right ") == "left ":
            return (0, read_witness(reader, statement[1]))
        return (1, read_witness(reader, statement[2]))
    return read_numbers(reader, statement[1] if kind == "circuit" else statement[1][0])


def read_numbers(reader, many):
    """Read so many numbers, at least one, with one blank between two of them."""
    numbers = [reader.number()]
    for _ in range(many - 1):
        reader.piece(" ")
        numbers.append(reader.number())
    return tuple(numbers)
