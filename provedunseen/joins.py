"""Joins: schemes that are put together of two schemes, their parts.

In this file `asked` is the pair of the questions that the two parts get.
"""

from provedunseen.cheats import guess_filling
from provedunseen.errors import BadStatement, TooLarge
from provedunseen.schemes import Scheme

MOST_WORDS = 3000
PART_QUESTIONS = 2


def require_two_questions(first, second):
    """Raise BadStatement if a part does not have exactly 2 questions."""
    if first.questions != PART_QUESTIONS or second.questions != PART_QUESTIONS:
        raise BadStatement(f"the parts of a join have {PART_QUESTIONS} questions")


def is_pair(value):
    """Tell whether the value, an integer or a tuple, is a pair."""
    return isinstance(value, tuple) and len(value) == 2


def word_pairs(join, asks):
    """Return (asked, word, other word) for all words of the two parts for each of these pairs of questions."""
    rows = [(asked, join.first.words(asked[0]), join.second.words(asked[1])) for asked in asks]
    if sum([len(words) * len(others) for _, words, others in rows]) > MOST_WORDS:
        raise TooLarge(f"a join lists at most {MOST_WORDS} words")
    return [(asked, word, other) for asked, words, others in rows for word in words for other in others]


def divided_word(join, asked, word):
    """Return what goes to each part, or None if the tuple does not begin with a word of the first one."""
    length = join.first.word_length(asked[0], word)
    return None if length is None else (word[:length], word[length:])


def joined_length(join, asked, word):
    """Return how many of the leading integers are a word of each part, or None."""
    divided = divided_word(join, asked, word)
    if divided is None:
        return None
    own, rest = divided
    length = join.second.word_length(asked[1], rest)
    return None if length is None else len(own) + length


def joined_boxes(join, asked, word):
    """Return the boxes of both parts that belong to their words, or None for what are no words."""
    divided = divided_word(join, asked, word)
    if divided is None:
        return None
    boxes = join.first.boxes_for(asked[0], divided[0])
    others = join.second.boxes_for(asked[1], divided[1])
    if boxes is None or others is None:
        return None
    return boxes + tuple([join.first.boxes + box for box in others])


def divided_reply(join, asked, word, shown):
    """Return the replies that go to the parts, or None if the first one has no word for its question."""
    divided = divided_word(join, asked, word)
    if divided is None:
        return None
    own, rest = divided
    boxes = join.first.boxes_for(asked[0], own)
    if boxes is None:
        return None
    return ((own, shown[:len(boxes)]), (rest, shown[len(boxes):]))


def joined_judge(join, asked, word, shown):
    """Tell whether both parts accept what goes to them."""
    divided = divided_reply(join, asked, word, shown)
    if divided is None:
        return False
    (own, own_shown), (rest, rest_shown) = divided
    return join.first.judge(asked[0], own, own_shown) and join.second.judge(asked[1], rest, rest_shown)


def found_draws(join, asked, word, shown):
    """Return the draws that the parts find for what goes to them, or None if one finds none."""
    divided = divided_reply(join, asked, word, shown)
    if divided is None:
        return None
    (own, own_shown), (rest, rest_shown) = divided
    draw = join.first.find_draw(asked[0], own, own_shown)
    other = join.second.find_draw(asked[1], rest, rest_shown)
    return None if draw is None or other is None else (draw, other)


class BothScheme(Scheme):
    """Shows that the statements of both parts hold."""

    def __init__(self, first, second):
        require_two_questions(first, second)
        self.first = first
        self.second = second
        self.questions = PART_QUESTIONS
        self.boxes = first.boxes + second.boxes
        self.draws = first.draws * second.draws

    def __invert__(self):
        return BothScheme(self.second, self.first)

    def divided_draw(self, draw):
        """Return the draws of the two parts for which the draw stands."""
        return divmod(draw, self.second.draws)

    def joined_draw(self, draw, other):
        """Return the draw that stands for these draws of the two parts."""
        return draw * self.second.draws + other

    def holds(self, witness):
        """Tell whether the value is a pair of a witness for each part."""
        return is_pair(witness) and self.first.holds(witness[0]) and self.second.holds(witness[1])

    def fill(self, witness, draw):
        """Return what both parts fill."""
        self.require_knower(witness, draw)
        a, b = self.divided_draw(draw)
        return self.first.fill(witness[0], a) + self.second.fill(witness[1], b)

    def word(self, witness, draw, question):
        """Return the words of both parts, one behind the other."""
        self.require_reply(question, witness, draw)
        a, b = self.divided_draw(draw)
        return self.first.word(witness[0], a, question) + self.second.word(witness[1], b, question)

    def words(self, question):
        """Return the ascending list of the words: each of the first part with each of the second one."""
        self.require_question(question)
        return [word + other for _, word, other in word_pairs(self, [(question, question)])]

    def word_length(self, question, word):
        """Return how many of the leading integers are a word of each part, or None."""
        self.require_question(question)
        return joined_length(self, (question, question), word)

    def boxes_for(self, question, word):
        """Return the boxes of both parts that are revealed, or None for what is no word."""
        self.require_question(question)
        return joined_boxes(self, (question, question), word)

    def judge(self, question, word, shown):
        """Accept what both parts accept."""
        self.require_question(question)
        return joined_judge(self, (question, question), word, shown)

    def simulate(self, question, draw):
        """Return what both parts simulate, one behind the other."""
        self.require_simulated(question, draw)
        a, b = self.divided_draw(draw)
        word, shown = self.first.simulate(question, a)
        other, rest = self.second.simulate(question, b)
        return (word + other, shown + rest)

    def find_draw(self, question, word, shown):
        """Return the least draw for which `simulate` returns this reply, or None."""
        self.require_question(question)
        draws = found_draws(self, (question, question), word, shown)
        return None if draws is None else self.joined_draw(draws[0], draws[1])

    def matching_draw(self, witness, question, draw):
        """Return the draw that stands for the matching draws of both parts."""
        self.require_reply(question, witness, draw)
        a, b = self.divided_draw(draw)
        matching = self.first.matching_draw(witness[0], question, a)
        return self.joined_draw(matching, self.second.matching_draw(witness[1], question, b))

    def original_draw(self, witness, question, draw):
        """Return the draw that stands for the original draws of both parts."""
        self.require_reply(question, witness, draw)
        a, b = self.divided_draw(draw)
        original = self.first.original_draw(witness[0], question, a)
        return self.joined_draw(original, self.second.original_draw(witness[1], question, b))

    def read(self, contents, words):
        """Return the pair of what both parts read."""
        divided = [divided_word(self, (question, question), word) for question, word in enumerate(words)]
        many = self.first.boxes
        u = self.first.read(contents[:many], tuple([own for own, _ in divided]))
        return (u, self.second.read(contents[many:], tuple([rest for _, rest in divided])))

    def mirrored(self, contents):
        """Return the contents with the boxes of the second part first."""
        self.require_contents(contents)
        return contents[self.first.boxes:] + contents[:self.first.boxes]

    def mirrored_draw(self, draw):
        """Return the draw of the exchanged join that stands for the same draws of the parts."""
        self.require_draw(draw)
        a, b = self.divided_draw(draw)
        return b * self.first.draws + a


class EitherScheme(Scheme):
    """Shows that the statement of at least one part holds, without telling which.

    The known part is answered by its witness, the other one is simulated: for the question
    of the latter, which is the bit of the draw, its boxes are filled accordingly.
    """

    FIRST = 0
    SECOND = 1

    def __init__(self, first, second):
        require_two_questions(first, second)
        self.first = first
        self.second = second
        self.questions = PART_QUESTIONS
        self.boxes = first.boxes + second.boxes
        self.draws = 2 * first.draws * second.draws

    def __invert__(self):
        return EitherScheme(self.second, self.first)

    def divided_draw(self, draw):
        """Return the bit and the draws of the two parts for which the draw stands."""
        rest, b = divmod(draw, self.second.draws)
        bit, a = divmod(rest, self.first.draws)
        return (bit, a, b)

    def joined_draw(self, bit, draw, other):
        """Return the draw that stands for this bit and these draws of the two parts."""
        return (bit * self.first.draws + draw) * self.second.draws + other

    def asks(self, question):
        """Return the ascending list of the pairs of questions that the parts may get."""
        return [(0, question), (1, 1 - question)]

    def asked_by(self, known, bit, question):
        """Return the questions of both parts if the one that is not known gets the bit."""
        other = bit ^ question
        return (other, bit) if known == self.FIRST else (bit, other)

    def holds(self, witness):
        """Tell whether the value is 0 with a witness for the first part, or 1 with one for the second part."""
        if not is_pair(witness) or witness[0] not in (self.FIRST, self.SECOND):
            return False
        known, reason = witness
        return self.first.holds(reason) if known == self.FIRST else self.second.holds(reason)

    def fill(self, witness, draw):
        """Return what the known part fills, and the simulated reply of the other one to the bit."""
        self.require_knower(witness, draw)
        bit, a, b = self.divided_draw(draw)
        known, reason = witness
        if known == self.FIRST:
            return self.first.fill(reason, a) + guess_filling(self.second, bit, b)[0]
        return guess_filling(self.first, bit, a)[0] + self.second.fill(reason, b)

    def word(self, witness, draw, question):
        """Return both questions, the known part's own word and the simulated word of the other one."""
        self.require_reply(question, witness, draw)
        bit, a, b = self.divided_draw(draw)
        known, reason = witness
        p, q = self.asked_by(known, bit, question)
        if known == self.FIRST:
            return (p, q) + self.first.word(reason, a, p) + self.second.simulate(q, b)[0]
        return (p, q) + self.first.simulate(p, a)[0] + self.second.word(reason, b, q)

    def words(self, question):
        """Return the ascending list of the words, for each pair of questions that the parts may get."""
        self.require_question(question)
        return [asked + word + other for asked, word, other in word_pairs(self, self.asks(question))]

    def word_length(self, question, word):
        """Return how many of the leading integers are the two questions and a word of each part, or None."""
        self.require_question(question)
        if word[:2] not in self.asks(question):
            return None
        length = joined_length(self, word[:2], word[2:])
        return None if length is None else 2 + length

    def boxes_for(self, question, word):
        """Return the boxes of both parts that are revealed, or None for what is no word."""
        self.require_question(question)
        if word[:2] not in self.asks(question):
            return None
        return joined_boxes(self, word[:2], word[2:])

    def judge(self, question, word, shown):
        """Accept what both parts accept for their questions, if these fit."""
        self.require_question(question)
        return word[:2] in self.asks(question) and joined_judge(self, word[:2], word[2:], shown)

    def simulate(self, question, draw):
        """Return the questions and what both parts simulate, the second one for the bit of the draw."""
        self.require_simulated(question, draw)
        bit, a, b = self.divided_draw(draw)
        p, q = self.asked_by(self.FIRST, bit, question)
        word, shown = self.first.simulate(p, a)
        other, rest = self.second.simulate(q, b)
        return ((p, q) + word + other, shown + rest)

    def find_draw(self, question, word, shown):
        """Return the least draw for which `simulate` returns this reply, or None."""
        self.require_question(question)
        if word[:2] not in self.asks(question):
            return None
        draws = found_draws(self, word[:2], word[2:], shown)
        return None if draws is None else self.joined_draw(word[1], draws[0], draws[1])

    def matching_draw(self, witness, question, draw):
        """Return the draw at which `simulate` gives the reply of this knower at the given one."""
        self.require_reply(question, witness, draw)
        bit, a, b = self.divided_draw(draw)
        known, reason = witness
        p, q = self.asked_by(known, bit, question)
        # When it is simulated, the second part gets the bit.
        if known == self.FIRST:
            return self.joined_draw(q, self.first.matching_draw(reason, p, a), b)
        return self.joined_draw(q, a, self.second.matching_draw(reason, q, b))

    def original_draw(self, witness, question, draw):
        """Return the draw whose matching draw is the given one."""
        self.require_reply(question, witness, draw)
        bit, a, b = self.divided_draw(draw)
        known, reason = witness
        p, q = self.asked_by(self.FIRST, bit, question)
        # The bit of the knower is the question of the part that is not known.
        if known == self.FIRST:
            return self.joined_draw(q, self.first.original_draw(reason, p, a), b)
        return self.joined_draw(p, a, self.second.original_draw(reason, q, b))

    def read(self, contents, words):
        """Return what is read off the part that has two different questions, and which one this is."""
        divided = [divided_word(self, word[:2], word[2:]) for word in words]
        known = self.FIRST if words[0][0] != words[1][0] else self.SECOND
        asked = [word[known] for word in words]
        own = tuple([divided[asked.index(question)][known] for question in (0, 1)])
        if known == self.FIRST:
            return (known, self.first.read(contents[:self.first.boxes], own))
        return (known, self.second.read(contents[self.first.boxes:], own))

    def mirrored(self, contents):
        """Return the contents with the boxes of the second part first."""
        self.require_contents(contents)
        return contents[self.first.boxes:] + contents[:self.first.boxes]

    def mirrored_draw(self, draw):
        """Return the draw of the exchanged join that stands for the same bit and draws of the parts."""
        self.require_draw(draw)
        bit, a, b = self.divided_draw(draw)
        return (bit * self.second.draws + b) * self.first.draws + a
