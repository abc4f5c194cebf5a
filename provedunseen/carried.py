"""Statements that are changed a little, and what their witnesses become by this."""

from provedunseen.errors import BadStatement, BadWitness
from provedunseen.graphs import relabel, ring_form
from provedunseen.meaning import holds
from provedunseen.perms import compose, inverse, require_permutation


def require_witness(statement, witness):
    """Raise BadWitness if the value is not a witness of the statement."""
    if not holds(statement, witness):
        raise BadWitness("this is no witness of the statement")


def relabel_statement(statement, row):
    """Return the statement with its only or first graph relabelled."""
    kind = statement[0]
    if kind not in ("ring", "alike", "colors"):
        raise BadStatement("only ring, alike and colors statements are relabelled")
    return (kind, relabel(statement[1], row)) + statement[2:]


def relabel_witness(statement, witness, row):
    """Return what a witness becomes when its statement is relabelled."""
    # The errors of the statement and of the row come before that of the witness.
    relabel_statement(statement, row)
    require_witness(statement, witness)
    if statement[0] == "ring":
        return ring_form(compose(witness, row))
    return tuple([witness[a] for a in inverse(row)])


def swap_statement(statement):
    """Return the statement with its two graphs or its two parts exchanged."""
    kind = statement[0]
    if kind not in ("alike", "both", "either"):
        raise BadStatement("only alike, both and either statements are swapped")
    return (kind, statement[2], statement[1])


def swap_witness(statement, witness):
    """Return what a witness becomes when its statement is swapped."""
    # The error of the statement comes before that of the witness.
    kind = swap_statement(statement)[0]
    require_witness(statement, witness)
    if kind == "alike":
        return inverse(witness)
    first, second = witness
    if kind == "both":
        return (second, first)
    return (1 - first, second)


def regroup_statement(statement):
    """Return (R, (S, T)) for ((R, S), T), three parts of which both or either is said."""
    kind = statement[0]
    if kind not in ("both", "either") or statement[1][0] != kind:
        raise BadStatement("only three parts of one kind of join, the first two together, are regrouped")
    _, joined, third = statement
    return (kind, joined[1], (kind, joined[2], third))


def regroup_witness(statement, witness):
    """Return what a witness becomes when its statement is regrouped."""
    # The error of the statement comes before that of the witness.
    kind = regroup_statement(statement)[0]
    require_witness(statement, witness)
    if kind == "both":
        (first, second), third = witness
        return (first, (second, third))
    choice, reason = witness
    if choice == 1:
        return (1, (1, reason))
    inner, known = reason
    if inner == 0:
        return (0, known)
    return (1, (0, known))


def joined_alike(first, *others):
    """Return the alike statement from the first graph of the first one to the second of the last one."""
    statements = [first, *others]
    for statement in statements:
        if statement[0] != "alike":
            raise BadStatement("only alike statements are joined")
    for before, after in zip(statements, others):
        if after[1] != before[2]:
            raise BadStatement("a statement does not begin where the one before it ends")
    return ("alike", first[1], statements[-1][2])


def joined_witness(first, *others):
    """Return the permutation that relabels by all of the given ones, from left to right."""
    require_permutation(first)
    joined = first
    for other in others:
        joined = compose(joined, other)
    return joined
