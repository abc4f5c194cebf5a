"""Exact fractions."""

from math import gcd

from provedunseen.errors import BadRatio

MOST_TIMES = 60


class Ratio:
    """A fraction in lowest terms, with a positive whole."""

    def __init__(self, part, whole):
        if whole == 0:
            raise BadRatio("the whole of a ratio is not 0")
        common = gcd(part, whole)
        if whole < 0:
            common = -common
        self.part = part // common
        self.whole = whole // common

    def __add__(self, other):
        part = self.part * other.whole + other.part * self.whole
        return Ratio(part, self.whole * other.whole)

    def __sub__(self, other):
        part = self.part * other.whole - other.part * self.whole
        return Ratio(part, self.whole * other.whole)

    def __mul__(self, other):
        return Ratio(self.part * other.part, self.whole * other.whole)

    def __eq__(self, other):
        return isinstance(other, Ratio) and self.part == other.part and self.whole == other.whole

    def __str__(self):
        return f"{self.part}/{self.whole}"

    def less(self, other):
        """Tell whether this ratio is less than the other one."""
        return self.part * other.whole < other.part * self.whole

    def raised(self, times):
        """Return the product of so many copies of this ratio."""
        if times < 0 or times > MOST_TIMES:
            raise BadRatio(f"a ratio is raised 0 to {MOST_TIMES} times")
        power = Ratio(1, 1)
        for _ in range(times):
            power = power * self
        return power
