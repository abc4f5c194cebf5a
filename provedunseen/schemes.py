"""The base class of all schemes: what each of them does with its contract methods."""

from provedunseen.distributions import Distribution
from provedunseen.errors import BadContents, BadDraw, BadQuestion, BadWitness, NothingExtracted, TooLarge

MOST_DRAWS = 3000


class Scheme:
    """How something is shown with boxes.

    A derived class gives its objects the attributes `questions`, `boxes` and `draws`, and
    defines all twelve contract methods in its own body. Those that stand here are the ones
    of a scheme without questions and witnesses.
    """

    # The contract methods.

    def holds(self, witness):
        """Tell whether the value is a witness for the scheme."""
        return False

    def fill(self, witness, draw):
        """Return the contents that a knower with this witness seals at this draw."""
        raise BadWitness("this scheme has no witness")

    def word(self, witness, draw, question):
        """Return the word with which this knower answers the question."""
        raise BadQuestion("this scheme has no question")

    def words(self, question):
        """Return the ascending list of all words for the question."""
        raise BadQuestion("this scheme has no question")

    def word_length(self, question, word):
        """Return how many of the leading integers are the word for the question."""
        raise BadQuestion("this scheme has no question")

    def boxes_for(self, question, word):
        """Return the ascending tuple of the boxes that are revealed, or None for what is no word."""
        raise BadQuestion("this scheme has no question")

    def judge(self, question, word, shown):
        """Tell whether the reply (word, shown) is accepted for the question."""
        raise BadQuestion("this scheme has no question")

    def simulate(self, question, draw):
        """Return a reply that is made from the draw without any witness."""
        raise BadQuestion("this scheme has no question")

    def find_draw(self, question, word, shown):
        """Return the least draw for which `simulate` returns this reply, or None."""
        raise BadQuestion("this scheme has no question")

    def matching_draw(self, witness, question, draw):
        """Return a draw at which `simulate` gives the reply that the knower gives at `draw`."""
        raise BadQuestion("this scheme has no question")

    def original_draw(self, witness, question, draw):
        """Return the draw whose matching draw is `draw`."""
        raise BadQuestion("this scheme has no question")

    def read(self, contents, words):
        """Return a witness, read off contents that are accepted for every question."""
        raise NothingExtracted("this scheme has no witness")

    # The errors of the contract methods.

    def require_question(self, question):
        """Raise BadQuestion if there is no such question."""
        if question < 0 or question >= self.questions:
            raise BadQuestion("the scheme has no such question")

    def require_witness(self, witness):
        """Raise BadWitness if the value is not a witness for the scheme."""
        if not self.holds(witness):
            raise BadWitness("this is no witness for the scheme")

    def require_draw(self, draw):
        """Raise BadDraw if there is no such draw."""
        if draw < 0 or draw >= self.draws:
            raise BadDraw("the scheme has no such draw")

    def require_knower(self, witness, draw):
        """Raise the error of the witness, then that of the draw."""
        self.require_witness(witness)
        self.require_draw(draw)

    def require_simulated(self, question, draw):
        """Raise the error of the question, then that of the draw."""
        self.require_question(question)
        self.require_draw(draw)

    def require_reply(self, question, witness, draw):
        """Raise the error of the question, then that of the witness, then that of the draw."""
        self.require_question(question)
        self.require_knower(witness, draw)

    def require_contents(self, contents):
        """Raise BadContents if there is not one integer for each box."""
        if len(contents) != self.boxes:
            raise BadContents("there must be one integer for each box")

    # What every scheme does with its contract methods.

    def reply(self, witness, draw, question):
        """Return the word of a knower and the contents of the revealed boxes."""
        self.require_reply(question, witness, draw)
        word = self.word(witness, draw, question)
        contents = self.fill(witness, draw)
        return (word, tuple([contents[box] for box in self.boxes_for(question, word)]))

    def accepts(self, contents, question, word):
        """Tell whether the boxes that are revealed for the question and the word are accepted."""
        self.require_question(question)
        self.require_contents(contents)
        boxes = self.boxes_for(question, word)
        if boxes is None:
            return False
        return self.judge(question, word, tuple([contents[box] for box in boxes]))

    def answer(self, contents, question):
        """Return the least word with which the contents are accepted for the question, or None."""
        # These errors come before those of `words`.
        self.require_question(question)
        self.require_contents(contents)
        for word in self.words(question):
            if self.accepts(contents, question, word):
                return word
        return None

    def passed(self, contents):
        """Return the ascending tuple of the questions for which there is an answer."""
        self.require_contents(contents)
        return tuple([
            question for question in range(self.questions) if self.answer(contents, question) is not None
        ])

    def reply_distribution(self, witness, question):
        """Return the distribution of the replies of a knower over all draws."""
        self.require_question(question)
        self.require_witness(witness)
        self.require_few_draws()
        return Distribution.even([self.reply(witness, draw, question) for draw in range(self.draws)])

    def simulated_distribution(self, question):
        """Return the distribution of the simulated replies over all draws."""
        self.require_question(question)
        self.require_few_draws()
        return Distribution.even([self.simulate(question, draw) for draw in range(self.draws)])

    def require_few_draws(self):
        """Raise TooLarge if there are more draws than a distribution goes through."""
        if self.draws > MOST_DRAWS:
            raise TooLarge(f"the scheme has more than {MOST_DRAWS} draws")

    def extract(self, contents, words):
        """Return the witness read off contents that are accepted for each question with its word."""
        self.require_contents(contents)
        if len(words) != self.questions:
            raise NothingExtracted("there must be one word for each question")
        for question, word in enumerate(words):
            if not self.accepts(contents, question, word):
                raise NothingExtracted("the contents are not accepted for every question")
        return self.read(contents, words)
