"""The scheme for a circuit statement."""

from provedunseen.errors import BadWitness
from provedunseen.masks import (
    bit_rows, bits, flipped, is_bit, masked_rows, number_of_bits, row_count, row_number,
)
from provedunseen.meaning import holds_atom, is_bits, wire_values
from provedunseen.schemes import Scheme
from provedunseen.statements import require_kind


class CircuitScheme(Scheme):
    """The boxes hold a flip for each wire but the output, and the masked tables of the gates.

    To question 0 all of it is shown; to question 1 the rows that follow from flipped inputs,
    up to the value 1 of the output, which is not flipped.
    """

    def __init__(self, statement):
        require_kind(statement, "circuit")
        _, inputs, gates = statement
        self.statement = statement
        self.inputs = inputs
        self.gates = gates
        self.flips = inputs + len(gates) - 1
        starts = [self.flips]
        for gate in gates:
            starts.append(starts[-1] + row_count(gate))
        # The first box of each table.
        self.starts = tuple(starts[:-1])
        self.questions = 2
        self.boxes = starts[-1]
        self.draws = 1 << self.flips

    def filled(self, flips):
        """Return the contents that have these flips."""
        # The output is not flipped.
        known = flips + (0,)
        contents = flips
        for own, gate in enumerate(self.gates, start=self.inputs):
            contents = contents + masked_rows(gate, known, known[own])
        return contents

    def gate_bits(self, word):
        """Return the flipped values of the gates' own wires that belong to the word."""
        return word[self.inputs:] + (1,)

    def holds(self, witness):
        """Tell whether the value is a witness of the statement."""
        return holds_atom(self.statement, witness)

    def fill(self, witness, draw):
        """Return the flips of the draw and the tables that belong to them."""
        self.require_knower(witness, draw)
        return self.filled(bits(draw, self.flips))

    def word(self, witness, draw, question):
        """Return the empty word, or the flipped values of all wires but the output."""
        self.require_reply(question, witness, draw)
        if question == 0:
            return ()
        values = wire_values(self.statement, witness)[:self.flips]
        return flipped(values, bits(draw, self.flips))

    def words(self, question):
        """Return the empty word alone, or all tuples of a bit for each wire but the output."""
        self.require_question(question)
        return [()] if question == 0 else bit_rows(self.flips)

    def word_length(self, question, word):
        """Return 0 for question 0; for the other one the number of bits, or None if the tuple is shorter."""
        self.require_question(question)
        if question == 0:
            return 0
        return self.flips if len(word) >= self.flips else None

    def boxes_for(self, question, word):
        """Return all boxes, or the box of one row of each table; None for what is no word."""
        self.require_question(question)
        if question == 0:
            return tuple(range(self.boxes)) if word == () else None
        if not is_bits(word, self.flips):
            return None
        return tuple([start + row_number(gate, word) for start, gate in zip(self.starts, self.gates)])

    def judge(self, question, word, shown):
        """Accept tables that belong to the flips, or rows that lead to the value 1 of the output."""
        self.require_question(question)
        if question == 0:
            return word == () and len(shown) == self.boxes and self.faults(shown) == ()
        return is_bits(word, self.flips) and shown == self.gate_bits(word)

    def simulate(self, question, draw):
        """Return all contents of the draw, or its bits as a word with the rows that are accepted."""
        self.require_simulated(question, draw)
        row = bits(draw, self.flips)
        if question == 0:
            return ((), self.filled(row))
        return (row, self.gate_bits(row))

    def find_draw(self, question, word, shown):
        """Return the only draw for which `simulate` returns this reply, or None."""
        if not self.judge(question, word, shown):
            return None
        return number_of_bits(shown[:self.flips] if question == 0 else word)

    def matching_draw(self, witness, question, draw):
        """Return the draw at which `simulate` gives the reply of this knower at the given one."""
        self.require_reply(question, witness, draw)
        return draw if question == 0 else number_of_bits(self.word(witness, draw, question))

    def original_draw(self, witness, question, draw):
        """Return the draw whose matching draw is the given one."""
        # What flips the values to the word also flips the word to what flipped them.
        return self.matching_draw(witness, question, draw)

    def read(self, contents, words):
        """Return the values of the inputs, which the flips undo."""
        return flipped(words[1][:self.inputs], contents[:self.inputs])

    def faults(self, contents):
        """Return the ascending tuple of the boxes that are wrong for question 0."""
        self.require_contents(contents)
        flips = contents[:self.flips]
        wrong = [box for box, content in enumerate(flips) if not is_bit(content)]
        if len(wrong) > 0:
            return tuple(wrong)
        right = self.filled(flips)
        return tuple([box for box in range(self.boxes) if contents[box] != right[box]])

    def walk(self, contents, row):
        """Return the bits of all wires that the tables give for flipped inputs, or None."""
        self.require_contents(contents)
        if not is_bits(row, self.inputs):
            raise BadWitness("there must be one bit for each input")
        found = row
        for start, gate in zip(self.starts, self.gates):
            content = contents[start + row_number(gate, found)]
            if not is_bit(content):
                return None
            found = found + (content,)
        return found
