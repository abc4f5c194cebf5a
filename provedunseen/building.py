"""The scheme of any statement."""

from provedunseen.circuits import CircuitScheme
from provedunseen.colorings import ColorScheme
from provedunseen.joins import BothScheme, EitherScheme
from provedunseen.likenesses import AlikeScheme
from provedunseen.rings import RingScheme


def scheme_of(statement):
    """Return the scheme whose witnesses are those of the statement."""
    kind = statement[0]
    if kind == "both":
        return BothScheme(scheme_of(statement[1]), scheme_of(statement[2]))
    if kind == "either":
        return EitherScheme(scheme_of(statement[1]), scheme_of(statement[2]))
    if kind == "ring":
        return RingScheme(statement)
    if kind == "alike":
        return AlikeScheme(statement)
    if kind == "circuit":
        return CircuitScheme(statement)
    return ColorScheme(statement)
