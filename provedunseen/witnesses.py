"""The witnesses of a statement by plain search, in ascending order, and their numbers."""

from itertools import permutations

from provedunseen.errors import BadDraw, BadWitness
from provedunseen.graphs import ring_forms
from provedunseen.meaning import fits, holds
from provedunseen.rows import rows_of


def witnesses(statement):
    """Yield every witness of the statement once, in ascending order."""
    kind = statement[0]
    if kind == "both":
        _, first, second = statement
        for u in witnesses(first):
            for v in witnesses(second):
                yield (u, v)
    elif kind == "either":
        _, first, second = statement
        for u in witnesses(first):
            yield (0, u)
        for v in witnesses(second):
            yield (1, v)
    else:
        for row in candidates(statement):
            if fits(statement, row):
                yield row


def candidates(atom):
    """Return the ascending list of the tuples among which the witnesses of an atom are."""
    kind = atom[0]
    if kind == "circuit":
        return rows_of(atom[1], 2)
    nodes = atom[1][0]
    if kind == "ring":
        return ring_forms(nodes)
    if kind == "alike":
        return list(permutations(range(nodes)))
    return rows_of(nodes, atom[2])


def counted(statement):
    """Return (number of witnesses, kind, parts) for the statement.

    The parts are the list of the witnesses of an atom, or the two counted parts of a both or
    either statement: so no pairs are gone through, and each atom is searched once.
    """
    kind = statement[0]
    if kind not in ("both", "either"):
        rows = list(witnesses(statement))
        return (len(rows), kind, rows)
    first = counted(statement[1])
    second = counted(statement[2])
    many = first[0] * second[0] if kind == "both" else first[0] + second[0]
    return (many, kind, (first, second))


def count_witnesses(statement):
    """Return the number of witnesses of the statement."""
    return counted(statement)[0]


def is_true(statement):
    """Tell whether the statement has a witness."""
    return count_witnesses(statement) > 0


def first_witness(statement):
    """Return the least witness of the statement, or None."""
    found = counted(statement)
    if found[0] == 0:
        return None
    return pick(found, 0)


def witness_at(statement, number):
    """Return the witness that has this number."""
    found = counted(statement)
    if number < 0 or number >= found[0]:
        raise BadDraw("no witness has this number")
    return pick(found, number)


def pick(found, number):
    """Return the witness that has this number in a counted statement."""
    _, kind, parts = found
    if kind not in ("both", "either"):
        return parts[number]
    first, second = parts
    if kind == "both":
        place, rest = divmod(number, second[0])
        return (pick(first, place), pick(second, rest))
    if number < first[0]:
        return (0, pick(first, number))
    return (1, pick(second, number - first[0]))


def witness_number(statement, witness):
    """Return the number of a witness of the statement."""
    if not holds(statement, witness):
        raise BadWitness("this is no witness of the statement")
    return place_of(counted(statement), witness)


def place_of(found, witness):
    """Return the number of a witness in a counted statement."""
    _, kind, parts = found
    if kind not in ("both", "either"):
        return parts.index(witness)
    first, second = parts
    if kind == "both":
        return place_of(first, witness[0]) * second[0] + place_of(second, witness[1])
    choice, reason = witness
    if choice == 0:
        return place_of(first, reason)
    return first[0] + place_of(second, reason)
