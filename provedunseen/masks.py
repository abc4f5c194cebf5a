"""Bits, masks that flip them, and the masked tables of gates."""

from provedunseen.errors import BadContents, BadDraw
from provedunseen.meaning import gate_value
from provedunseen.rows import rows_of


def bits(number, size):
    """Return the tuple of the lowest bits of a number, the lowest one first."""
    if number < 0:
        raise BadDraw("a number below 0 has no bits")
    row = []
    rest = number
    for _ in range(size):
        row.append(rest & 1)
        rest = rest >> 1
    if rest > 0:
        raise BadDraw("the number has more bits")
    return tuple(row)


def is_bit(entry):
    """Tell whether the integer is a bit."""
    return entry in (0, 1)


def require_bits(row):
    """Raise BadContents if an entry of the tuple is not a bit."""
    if not all([is_bit(entry) for entry in row]):
        raise BadContents("an entry is not a bit")


def number_of_bits(row):
    """Return the number that has these bits, the lowest one first."""
    require_bits(row)
    return sum([bit << place for place, bit in enumerate(row)])


def bit_rows(size):
    """Return the ascending list of all tuples of so many bits."""
    return rows_of(size, 2)


def flipped(row, *masks):
    """Return the bits of the row, flipped where the masks have a 1."""
    require_bits(row)
    result = row
    for mask in masks:
        require_bits(mask)
        if len(mask) != len(row):
            raise BadContents("a mask has one bit for each bit of the row")
        result = tuple([bit ^ flip for bit, flip in zip(result, mask)])
    return result


def row_count(gate):
    """Return the number of rows in the table of the gate."""
    return 2 if gate[0] == "not" else 4


def row_number(gate, row):
    """Return the number of the table row that belongs to the flipped values of the wires."""
    if gate[0] == "not":
        return row[gate[1]]
    return 2 * row[gate[1]] + row[gate[2]]


def masked_rows(gate, flips, flip=0):
    """Return the flipped value of the gate's own wire for each row of its table."""
    name = gate[0]
    if name == "not":
        return tuple([gate_value(name, value ^ flips[gate[1]]) ^ flip for value in (0, 1)])
    return tuple([
        gate_value(name, first ^ flips[gate[1]], second ^ flips[gate[2]]) ^ flip
        for first in (0, 1) for second in (0, 1)
    ])
