"""Permutations of up to six numbers, as tuples: entry a is what a becomes."""

from math import factorial

from provedunseen.errors import BadDraw, BadPermutation

LARGEST_SIZE = 6


def is_permutation(row):
    """Tell whether the tuple of integers is a permutation of a size from 0 to 6."""
    return len(row) <= LARGEST_SIZE and sorted(row) == list(range(len(row)))


def require_permutation(row):
    """Raise BadPermutation if the tuple of integers is no permutation."""
    if not is_permutation(row):
        raise BadPermutation("this is no permutation of a size from 0 to 6")


def permutation(size, number):
    """Return the permutation with this number in the ascending order of its size."""
    if size < 0 or size > LARGEST_SIZE:
        raise BadPermutation(f"the size of a permutation is from 0 to {LARGEST_SIZE}")
    if number < 0 or number >= factorial(size):
        raise BadDraw("no permutation of this size has this number")
    rest = list(range(size))
    row = []
    left = number
    for behind in reversed(range(size)):
        place, left = divmod(left, factorial(behind))
        row.append(rest.pop(place))
    return tuple(row)


def permutation_number(row):
    """Return the number of a permutation in the ascending order of its size."""
    require_permutation(row)
    number = 0
    for place, entry in enumerate(row):
        less_behind = len([later for later in row[place + 1:] if later < entry])
        number = number * (len(row) - place) + less_behind
    return number


def inverse(row):
    """Return the permutation that undoes the given one."""
    require_permutation(row)
    return tuple([row.index(a) for a in range(len(row))])


def compose(first, second):
    """Return the permutation that relabels by the first one and then by the second one."""
    require_permutation(first)
    require_permutation(second)
    if len(first) != len(second):
        raise BadPermutation("the two permutations differ in size")
    return tuple([second[a] for a in first])
