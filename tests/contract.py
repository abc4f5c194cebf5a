"""Checks of the points 15 to 20 for any scheme, by going through its draws and spoiling its replies."""

import random

from provedunseen.errors import BadContents, BadDraw, BadQuestion, BadWitness, NothingExtracted, TooLarge

CONTRACT = {
    "holds": "(self, witness)", "fill": "(self, witness, draw)", "word": "(self, witness, draw, question)",
    "words": "(self, question)", "word_length": "(self, question, word)", "boxes_for": "(self, question, word)",
    "judge": "(self, question, word, shown)", "simulate": "(self, question, draw)",
    "find_draw": "(self, question, word, shown)", "matching_draw": "(self, witness, question, draw)",
    "original_draw": "(self, witness, question, draw)", "read": "(self, contents, words)",
}
VALUES = [
    0, 1, 2, -1, 10 ** 40, (), (0,), (1,), (2,), (-1,), (0, 0), (0, 1), (1, 0), (0, 1, 2), (0, 2, 1), (1, 1, 1),
    (0, 1, 2, 3), (0, 0, 0, 0, 0, 0, 0), (-1, 0), (0, 1, 2, 3, 4, 5, 6), ((),), ((), ()), (0, ()), (1, ()), (2, ()),
    ((), 0), ((0,),), ((0, 0), 0), (((0, 1), (1, 0)),), (0, 0, (0,)), (0, (0, (0, (0, (0,))))), (0, (0,)), (1, (0,)),
    (1, (1, (1, (1, (1, 1))))), ((0, 1), (0, 1), (0, 1)), (0, (0, 0), 0), ((0, 0), (0, 0)), ((1, 1), (0,)), (0, -1),
    (0, (0, 1)), (1, (0, 1)), (2, (0, 1)), (0, (1, 1)), (1, (1, 1)), ((0,), (0,)), ((1, 1), (1, 1)), (0, 0, 0),
]
ALL_DRAWS = 800
MOST_TRIED = 24


def is_prefix(row, other):
    return other[:len(row)] == row


def spoilt(row):
    """Tuples of integers that are a little different from this one."""
    found = [row[:-1], row + (0,), row + (1,), row[1:], row[::-1], row + row, ()]
    for place in range(len(row)):
        for entry in (-1, 0, 1, 2, 5, 99, row[place] + 1, row[place] - 1):
            found.append(row[:place] + (entry,) + row[place + 1:])
        for other in range(place):
            changed = list(row)
            changed[place], changed[other] = row[other], row[place]
            found.append(tuple(changed))
    return found


class ContractChecks:
    """Checks for a test case about one kind of scheme."""

    def tried_draws(self, scheme):
        """All draws of a small scheme, otherwise some of them."""
        if scheme.draws <= ALL_DRAWS:
            return list(range(scheme.draws))
        chance = random.Random(scheme.draws)
        return sorted({0, scheme.draws - 1, *(chance.randrange(scheme.draws) for _ in range(40))})

    def check_scheme(self, scheme, witnesses, *, same=True):
        """Check all of point 20; `same` tells that `extract` returns the very witness."""
        self.check_numbers(scheme)
        self.check_words(scheme)
        tried = witnesses if len(witnesses) <= 6 else [witnesses[0], witnesses[1], witnesses[-1]]
        for witness in tried:
            self.check_knower(scheme, witness)
            self.check_extracted(scheme, witness, same)
            self.check_matching(scheme, witness)
        self.check_simulated(scheme)
        self.check_cheats(scheme, tried)

    def check_numbers(self, scheme):
        for number in (scheme.questions, scheme.boxes, scheme.draws):
            self.assertIs(type(number), int)
            self.assertGreater(number, 0)

    def check_words(self, scheme):
        """The words are ascending, revealed as they should be, and none begins another one."""
        for question in range(scheme.questions):
            try:
                words = scheme.words(question)
            except TooLarge:
                continue
            self.assertEqual(words, sorted(set(words)))
            for word, after in zip(words, words[1:]):
                self.assertFalse(is_prefix(word, after))
            for word in words[:MOST_TRIED] + words[-MOST_TRIED:]:
                self.check_word(scheme, question, word)
                for other in spoilt(word):
                    self.assertIs(scheme.boxes_for(question, other) is not None, other in words)
            words.append("changed")
            self.assertEqual(scheme.words(question), words[:-1])

    def check_word(self, scheme, question, word):
        boxes = scheme.boxes_for(question, word)
        self.assertIs(type(boxes), tuple)
        self.assertEqual(list(boxes), sorted(set(boxes)))
        self.assertTrue(set(boxes) <= set(range(scheme.boxes)))
        for behind in ((), (0,), (1, 7, -3), word):
            self.assertEqual(scheme.word_length(question, word + behind), len(word))

    def check_knower(self, scheme, witness):
        """What a knower fills is accepted, and its reply is what is simulated at the matching draw."""
        for draw in self.tried_draws(scheme):
            contents = scheme.fill(witness, draw)
            self.assertEqual((type(contents), len(contents)), (tuple, scheme.boxes))
            self.assertTrue(all(type(content) is int and -1 <= content <= 99 for content in contents))
            for question in range(scheme.questions):
                word = scheme.word(witness, draw, question)
                self.check_word(scheme, question, word)
                shown = tuple(contents[box] for box in scheme.boxes_for(question, word))
                self.assertEqual(scheme.reply(witness, draw, question), (word, shown))
                self.assertIs(scheme.judge(question, word, shown), True)
                self.assertIs(scheme.accepts(contents, question, word), True)
                matching = scheme.matching_draw(witness, question, draw)
                self.assertEqual(scheme.simulate(question, matching), (word, shown))
                self.assertEqual(scheme.original_draw(witness, question, matching), draw)
                original = scheme.original_draw(witness, question, draw)
                self.assertEqual(scheme.matching_draw(witness, question, original), draw)

    def check_extracted(self, scheme, witness, same):
        for draw in self.tried_draws(scheme)[:MOST_TRIED]:
            contents = scheme.fill(witness, draw)
            words = tuple(scheme.word(witness, draw, question) for question in range(scheme.questions))
            extracted = scheme.extract(contents, words)
            self.assertIs(scheme.holds(extracted), True)
            if same:
                self.assertEqual(extracted, witness)
            for spoilt_words in (words[:-1], words + ((),), words[:-1] + ((7, 7, 7),)):
                with self.assertRaises(NothingExtracted):
                    scheme.extract(contents, spoilt_words)
            for spoilt_contents in (contents[:-1], contents + (0,)):
                for each in (words, ()):
                    with self.assertRaises(BadContents):
                        scheme.extract(spoilt_contents, each)

    def check_matching(self, scheme, witness):
        """The matching draws are all draws, each once, and so the distributions are equal."""
        if scheme.draws > ALL_DRAWS:
            return
        for question in range(scheme.questions):
            matching = [scheme.matching_draw(witness, question, draw) for draw in range(scheme.draws)]
            self.assertEqual(sorted(matching), list(range(scheme.draws)))
            self.assertTrue(
                scheme.reply_distribution(witness, question) == scheme.simulated_distribution(question)
            )

    def check_simulated(self, scheme):
        """A reply is accepted exactly if it is simulated at some draw; the least one is found."""
        for question in range(scheme.questions):
            least = {}
            for draw in self.tried_draws(scheme):
                least.setdefault(scheme.simulate(question, draw), draw)
            known = len(self.tried_draws(scheme)) == scheme.draws
            for reply in least:
                self.check_found(scheme, question, reply, least if known else None, True)
            for word, shown in list(least)[::1 + len(least) // 8]:
                others = [(other, shown) for other in spoilt(word)] + [(word, other) for other in spoilt(shown)]
                for reply in others:
                    self.check_found(scheme, question, reply, least if known else None, None)

    def check_found(self, scheme, question, reply, least, accepted):
        word, shown = reply
        draw = scheme.find_draw(question, word, shown)
        judged = scheme.judge(question, word, shown)
        self.assertIs(judged, draw is not None)
        if accepted is not None:
            self.assertIs(judged, accepted)
        if draw is not None:
            self.assertEqual(scheme.simulate(question, draw), reply)
        if least is not None:
            self.assertEqual(draw, least.get(reply))

    def check_cheats(self, scheme, witnesses):
        """Contents that are accepted for every question give a witness away."""
        chance = random.Random(scheme.boxes)
        draws = self.tried_draws(scheme)
        fills = [scheme.fill(witness, chance.choice(draws)) for witness in witnesses for _ in range(3)]
        for question in range(scheme.questions):
            for draw in draws[:3]:
                word, shown = scheme.simulate(question, draw)
                contents = [1] * scheme.boxes
                for box, content in zip(scheme.boxes_for(question, word), shown):
                    contents[box] = content
                fills.append(tuple(contents))
        tried = list(fills)
        for contents in fills:
            other = chance.choice(fills)
            cut = chance.randrange(scheme.boxes + 1)
            tried.append(contents[:cut] + other[cut:])
            box = chance.randrange(scheme.boxes)
            tried.append(contents[:box] + (1 - contents[box],) + contents[box + 1:])
        for contents in tried:
            self.check_contents(scheme, contents)

    def check_contents(self, scheme, contents):
        """What `answer`, `passed` and `extract` say of any contents agrees."""
        try:
            words = tuple(scheme.answer(contents, question) for question in range(scheme.questions))
        except TooLarge:
            return
        passed = tuple(question for question, word in enumerate(words) if word is not None)
        self.assertEqual(scheme.passed(contents), passed)
        if len(passed) == scheme.questions:
            self.assertIs(scheme.holds(scheme.extract(contents, words)), True)

    def check_values(self, scheme, holds):
        """Check which values are witnesses."""
        for value in VALUES:
            self.assertIs(scheme.holds(value), holds(value), value)

    def check_errors(self, scheme, witness):
        """Check the errors of point 16 in their order; the witness is one for the scheme."""
        wrong = [value for value in VALUES if not scheme.holds(value)]
        bad_draws = (-1, scheme.draws, scheme.draws + 5)
        for question in (-1, scheme.questions, scheme.questions + 7):
            for value in (witness, wrong[0], wrong[-1]):
                for draw in (0, *bad_draws):
                    self.check_calls(BadQuestion, scheme, value, question, draw)
            for call in (
                lambda: scheme.words(question), lambda: scheme.word_length(question, ()),
                lambda: scheme.boxes_for(question, ()), lambda: scheme.judge(question, (), ()),
                lambda: scheme.find_draw(question, (), ()), lambda: scheme.simulate(question, 0),
                lambda: scheme.simulate(question, -1), lambda: scheme.simulated_distribution(question),
                lambda: scheme.reply_distribution(wrong[0], question), lambda: scheme.accepts((), question, ()),
            ):
                with self.assertRaises(BadQuestion):
                    call()
        for question in range(scheme.questions):
            for value in wrong:
                for draw in (0, -1):
                    self.check_calls(BadWitness, scheme, value, question, draw)
            for draw in bad_draws:
                self.check_calls(BadDraw, scheme, witness, question, draw)
                with self.assertRaises(BadDraw):
                    scheme.simulate(question, draw)
        for value, draw, error in ((wrong[0], 0, BadWitness), (wrong[-1], -1, BadWitness), (witness, -1, BadDraw),
                                   (witness, scheme.draws, BadDraw)):
            with self.assertRaises(error):
                scheme.fill(value, draw)

    def check_calls(self, error, scheme, witness, question, draw):
        for call in (
            lambda: scheme.word(witness, draw, question), lambda: scheme.matching_draw(witness, question, draw),
            lambda: scheme.original_draw(witness, question, draw), lambda: scheme.reply(witness, draw, question),
        ):
            with self.assertRaises(error):
                call()
