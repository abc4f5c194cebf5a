"""Exact distributions: finitely many keys, each with a positive weight."""

from math import gcd, lcm

from provedunseen.errors import BadWeight, EmptyDistribution
from provedunseen.ratios import Ratio


class Distribution:
    """Keys in the order in which they first appear, with weights in lowest terms."""

    def __init__(self, weighted):
        if len(weighted) == 0:
            raise EmptyDistribution("a distribution has at least one key")
        if any([weight < 1 for _, weight in weighted]):
            raise BadWeight("a weight is at least 1")
        sums = added_weights(weighted)
        keys = {repr(key): key for key, _ in weighted}
        common = common_divisor(list(sums.values()))
        self._weights = {text: weight // common for text, weight in sums.items()}
        self.pairs = [(keys[text], weight) for text, weight in self._weights.items()]
        self.total = sum([weight for _, weight in self.pairs])

    def __iter__(self):
        return iter(self.pairs)

    def __contains__(self, key):
        return repr(key) in self._weights

    def __eq__(self, other):
        return isinstance(other, Distribution) and self._weights == other._weights

    def __mul__(self, other):
        return Distribution([((a, b), m * n) for a, m in self.pairs for b, n in other.pairs])

    def chance(self, key):
        """Return the probability of the key, a ratio."""
        return Ratio(self._weights.get(repr(key), 0), self.total)

    @staticmethod
    def even(keys):
        """Make each entry of a list equally likely."""
        return Distribution([(key, 1) for key in keys])

    @staticmethod
    def mixed(first, *others):
        """Choose each of the given distributions with the same probability."""
        shared = first.total
        for other in others:
            shared = lcm(shared, other.total)
        return Distribution([
            (key, weight * (shared // each.total))
            for each in [first, *others]
            for key, weight in each.pairs
        ])


def added_weights(weighted):
    """Return a dict with the sum of the weights for the text of each key.

    The text stands for the key, since keys may be nested deeper than the keys of a dict should be.
    """
    sums = {}
    for key, weight in weighted:
        text = repr(key)
        sums[text] = sums.get(text, 0) + weight
    return sums


def common_divisor(numbers):
    """Return the greatest common divisor of the numbers."""
    common = 0
    for number in numbers:
        common = gcd(common, number)
    return common
