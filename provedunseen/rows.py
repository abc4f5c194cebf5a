"""Lists of all tuples of small integers."""


def rows_of(size, count):
    """Return the ascending list of the tuples of so many integers from 0 to count - 1."""
    rows = [()]
    for _ in range(size):
        rows = [row + (entry,) for row in rows for entry in range(count)]
    return rows
