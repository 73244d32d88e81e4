"""Choices of some parts of a partition, without checks."""

from branchsheets.partitions import part_counts
from branchsheets.whole import chosen_of


def choices_from(mu):
    """The triples of the parts that are taken, those that are left, and the number of ways if all parts are marked."""
    rows = [((), (), 1)]
    for part, many in part_counts(mu):
        rows = [(taken + (part,) * n, left + (part,) * (many - n), ways * chosen_of(many, n))
                for taken, left, ways in rows for n in range(many + 1)]
    return rows


def choices_by_sum(mu):
    """A dict from a number to the choices whose parts have it as their sum."""
    found = {}
    for row in choices_from(mu):
        found.setdefault(sum(row[0]), []).append(row)
    return found
