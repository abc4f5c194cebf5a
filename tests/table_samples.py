"""Tables for the tests, as data, and what they say, found in a way of its own."""

import random
from collections import Counter

from provedunseen.tables import TableScheme

BIT = ((0,), (1,))
# Box 0 holds a coin, box 1 the coin flipped by the witness: one box tells nothing, both tell the witness.
COIN_FILLINGS = tuple(tuple(((coin, coin ^ secret), (0, 0)) for coin in (0, 1)) for secret in (0, 1))
COINS = (2, 2, ((((0,), BIT),), (((1,), BIT),)), COIN_FILLINGS)
OPEN_RULES = COINS[2] + ((((0, 1), ((0, 0), (0, 1), (1, 0), (1, 1))),),)
OPEN = (2, 2, OPEN_RULES, tuple(tuple((contents, (0, 0, 0)) for contents, _ in row) for row in COIN_FILLINGS))
# The two witnesses choose other words for question 1 at the same draws, but each word twice.
WORDS = (3, 3, (
    (((0, 2), ((0, 1), (2, 2))), ((), ())),
    (((1,), ((0,), (1,), (2,))), ((1, 2), ((1, 1), (1, 2), (2, 2))), ((), ((),))),
), (
    (((0, 1, 1), (0, 1)), ((0, 1, 1), (0, 1)), ((2, 0, 2), (0, 2)), ((2, 2, 2), (0, 0))),
    (((2, 2, 2), (0, 0)), ((0, 1, 1), (0, 1)), ((2, 0, 2), (0, 2)), ((0, 1, 1), (0, 1))),
))
ALONE = (1, 1, ((((), ((),)),),), ((((0,), (0,)),),))


def full_table():
    """A table at all bounds: 9 boxes, 4 signs, 6 questions, 12 rules, 6 witnesses, 24 draws."""
    rules = tuple(
        tuple((tuple(range(9)) if number == 0 else (number - 1,) if number < 10 else (),
               ((0,) * 9, (3,) * 9) if number == 0 else ((0,), (3,)) if number < 10 else ((),))
              for number in range(12))
        for _ in range(6)
    )
    fillings = tuple(
        tuple(((draw % 4,) * 9, tuple((draw + question) % 12 for question in range(6))) for draw in range(24))
        for _ in range(6)
    )
    return (9, 4, rules, fillings)


def random_data(seed, *, leaking):
    """Some small table; without `leaking` each witness has the fillings of the first one in another order."""
    chance = random.Random(seed)
    boxes, signs, questions = chance.randint(1, 3), chance.randint(1, 3), chance.randint(1, 3)
    rules = tuple(tuple(random_rule(chance, boxes, signs) for _ in range(chance.randint(1, 3)))
                  for _ in range(questions))
    draws = chance.randint(1, 6)
    first = [random_filling(chance, boxes, signs, rules) for _ in range(draws)]
    fillings = [tuple(first)]
    for _ in range(chance.randint(0, 3)):
        if leaking:
            fillings.append(tuple(random_filling(chance, boxes, signs, rules) for _ in range(draws)))
        else:
            fillings.append(tuple(chance.sample(first, draws)))
    return (boxes, signs, rules, tuple(fillings))


def random_rule(chance, boxes, signs):
    revealed = tuple(sorted(chance.sample(range(boxes), chance.randint(0, boxes))))
    shown = {tuple(chance.randrange(signs) for _ in revealed) for _ in range(chance.randint(0, 4))}
    return (revealed, tuple(sorted(shown)))


def random_filling(chance, boxes, signs, rules):
    contents = tuple(chance.randrange(signs) for _ in range(boxes))
    return (contents, tuple(chance.randrange(len(entry)) for entry in rules))


MANY = [COINS, OPEN, WORDS, ALONE] + [random_data(seed, leaking=seed % 2 == 0) for seed in range(60)]


def made(data):
    return TableScheme(*data)


def reply_of(data, witness, draw, question):
    _, _, rules, fillings = data
    contents, choices = fillings[witness][draw]
    choice = choices[question]
    return ((choice,), tuple(contents[box] for box in rules[question][choice][0]))


def replies_of(data, witness, question):
    return [reply_of(data, witness, draw, question) for draw in range(len(data[3][0]))]


def leaks_of(data):
    """All tuples that tell two witnesses of the table apart, ascending."""
    found = []
    for question in range(len(data[2])):
        counts = [Counter(replies_of(data, witness, question)) for witness in range(len(data[3]))]
        for first in range(len(counts)):
            for second in range(first + 1, len(counts)):
                for reply in set(counts[first]) | set(counts[second]):
                    if counts[first][reply] != counts[second][reply]:
                        found.append((question, first, second, reply))
    return sorted(found)
