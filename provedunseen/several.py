"""Joins of one, two or more schemes, and the witnesses for them."""

from provedunseen.errors import BadWitness
from provedunseen.joins import BothScheme, EitherScheme


def all_of(first, *others):
    """Join the schemes from left to right to one that shows all of their statements."""
    scheme = first
    for other in others:
        scheme = BothScheme(scheme, other)
    return scheme


def any_of(first, *others):
    """Join the schemes from left to right to one that shows that some of their statements holds."""
    scheme = first
    for other in others:
        scheme = EitherScheme(scheme, other)
    return scheme


def all_witness(first, *others):
    """Put a witness for each scheme together to the witness for `all_of` of them."""
    witness = first
    for other in others:
        witness = (witness, other)
    return witness


def any_witness(place, count, witness):
    """Return the witness for `any_of` of so many schemes, made of one for the scheme at the place."""
    if place < 0 or place >= count:
        raise BadWitness("no scheme stands at this place")
    # Each scheme behind the first one is the second part of a join of all those before it.
    joined = witness if place == 0 else (EitherScheme.SECOND, witness)
    for _ in range(place + 1, count):
        joined = (EitherScheme.FIRST, joined)
    return joined
