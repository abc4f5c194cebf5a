"""A reader of texts, from left to right."""

from provedunseen.errors import BadText

DIGITS = "0123456789"


class Reader:
    """A text and the place of its first character that has not been read."""

    def __init__(self, text):
        self.text = text
        self.place = 0

    @property
    def ended(self):
        """Whether everything has been read."""
        return self.place >= len(self.text)

    def follows(self, piece):
        """Tell whether the rest of the text begins with the piece; this reads nothing."""
        return self.text.startswith(piece, self.place)

    def piece(self, *pieces):
        """Read the one of the pieces with which the rest begins, and return it."""
        for piece in pieces:
            if self.follows(piece):
                self.place += len(piece)
                return piece
        rest = self.text[self.place:]
        # A text that is cut short is wrong at its end, where it could go on.
        if any([each.startswith(rest) for each in pieces]):
            raise BadText(len(self.text))
        raise BadText(self.place)

    def number(self, *, least=0, most=99):
        """Read a number of one or two digits without a leading zero, and return it."""
        end = self.place
        while end < len(self.text) and self.text[end] in DIGITS:
            end += 1
        digits = self.text[self.place:end]
        if len(digits) not in (1, 2) or (len(digits) == 2 and digits[0] == "0"):
            raise BadText(self.place)
        number = int(digits)
        if number < least or number > most:
            raise BadText(self.place)
        self.place = end
        return number

    def finish(self):
        """Raise BadText if something has not been read."""
        if not self.ended:
            raise BadText(self.place)
