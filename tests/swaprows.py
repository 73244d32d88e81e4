"""What the tests of rows of swaps use: the form of such a row, its parts, and the numbers of swaps in them."""

from helpers import parts_by_trying, permutation


def is_swap_row(value):
    return (isinstance(value, tuple) and 1 <= len(value) <= 16 and all(permutation(p) for p in value)
            and len({len(p) for p in value}) == 1 and len(value[0]) <= 12
            and all(sum(x != y for x, y in enumerate(p)) == 2 for p in value))


def parts_of(row):
    return [part for part in parts_by_trying((len(row[0]), row)) if len(part) > 1]


def counts_of(row):
    return [sum(any(p[x] != x for x in part) for p in row) for part in parts_of(row)]
