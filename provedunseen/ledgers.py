"""Budgets of writes, tapes of chance, and the ledgers that keep boxes and letters."""

from provedunseen.errors import AlreadySealed, BadBox, BadContents, Crash, NotSealed, TapeEnd

BLANK = -1
GREATEST_CONTENT = 99


def are_contents(row):
    """Tell whether all integers of the tuple may be contents of boxes."""
    return all([BLANK <= content <= GREATEST_CONTENT for content in row])


class Budget:
    """How many writes are still allowed: `left`, or None without a limit."""

    def __init__(self):
        self.left = None

    def allow(self, writes):
        """Allow so many writes from now on, or any number for None."""
        self.left = writes

    def spend(self):
        """Take one write off, or raise Crash if none is left."""
        if self.left is None:
            return
        if self.left == 0:
            raise Crash("no write is left")
        self.left -= 1


class Tape:
    """Numbers of chance, which are taken one after another."""

    def __init__(self, numbers):
        self.numbers = list(numbers)
        self.place = 0

    def take(self, size):
        """Take the next number and return its remainder for this size."""
        if self.place == len(self.numbers):
            raise TapeEnd("all numbers have been taken")
        number = self.numbers[self.place]
        self.place += 1
        return number % size


class Ledger:
    """Keeps the boxes of sealed deals, of which only the revealed ones are told, and letters."""

    def __init__(self):
        self.letters = []
        # For each deal a list of the contents of its boxes, and one that tells which are revealed.
        self._contents = {}
        self._revealed = {}

    @property
    def sealed(self):
        """The number of sealed deals."""
        return len(self._contents)

    def is_sealed(self, deal):
        """Tell whether the deal is sealed."""
        return deal in self._contents

    def require_boxes(self, deal, boxes):
        """Raise NotSealed if the deal is not sealed, then BadBox if it does not have all of these boxes."""
        if not self.is_sealed(deal):
            raise NotSealed("the deal is not sealed")
        many = len(self._contents[deal])
        if not all([0 <= box < many for box in boxes]):
            raise BadBox("the deal has no such box")

    def require_unsealed(self, deal):
        """Raise AlreadySealed if the deal is sealed."""
        if self.is_sealed(deal):
            raise AlreadySealed("the deal is sealed already")

    def keep(self, deal, contents):
        """Seal a deal with these contents, of which none is revealed."""
        self._contents[deal] = list(contents)
        self._revealed[deal] = [False] * len(contents)

    def seal(self, deal, contents):
        """Seal a deal with a box for each of the contents."""
        self.require_unsealed(deal)
        if not are_contents(contents):
            raise BadContents(f"contents are from {BLANK} to {GREATEST_CONTENT}")
        self.keep(deal, contents)

    def reveal(self, deal, boxes):
        """Reveal these boxes of the deal."""
        self.require_boxes(deal, boxes)
        for box in boxes:
            self._revealed[deal][box] = True

    def shown(self, deal):
        """Return the ascending tuple of (box, content) for all revealed boxes of the deal."""
        if not self.is_sealed(deal):
            return ()
        contents = self._contents[deal]
        return tuple([(box, contents[box]) for box, told in enumerate(self._revealed[deal]) if told])

    def visible(self, deal):
        """Return the contents of the deal, with a blank in place of each box that is not revealed."""
        if not self.is_sealed(deal):
            return ()
        boxes = zip(self._contents[deal], self._revealed[deal])
        return tuple([content if told else BLANK for content, told in boxes])

    def letters_of(self, deal):
        """Yield the letters about this deal in the order in which they were posted."""
        for letter in self.letters:
            if letter[1] == deal:
                yield letter

    def post(self, letter):
        """Add a letter behind all others."""
        self.letters.append(letter)


class SimulatedLedger(Ledger):
    """A ledger on which boxes may get their contents when they are revealed; None stands for none yet."""

    def __init__(self):
        super().__init__()

    def seal_blank(self, deal, boxes):
        """Seal a deal with so many boxes that have no content yet."""
        self.require_unsealed(deal)
        self.keep(deal, [None] * boxes)

    def reveal(self, deal, boxes):
        """Reveal these boxes of the deal; those without a content turn out to be blank."""
        super().reveal(deal, boxes)
        contents = self._contents[deal]
        for box in boxes:
            if contents[box] is None:
                contents[box] = BLANK

    def reveal_as(self, deal, boxes, contents):
        """Reveal these boxes of the deal with these contents."""
        self.require_boxes(deal, boxes)
        if len(contents) != len(boxes) or not are_contents(contents):
            raise BadContents(f"there must be a content from {BLANK} to {GREATEST_CONTENT} for each box")
        given = list(self._contents[deal])
        for box, content in zip(boxes, contents):
            if given[box] is not None and given[box] != content:
                raise AlreadySealed("a box has another content already")
            given[box] = content
        self._contents[deal] = given
        self.reveal(deal, boxes)
