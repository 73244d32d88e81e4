"""Partitions, their sizes, and how they are cut and joined."""

from branchsheets.demands import demand, demand_within
from branchsheets.whole import factorial_of, is_integer, raised_to

GREATEST_SUM = 24


def is_partition(value):
    if not isinstance(value, tuple):
        return False
    if not all([is_integer(part) and part > 0 for part in value]):
        return False
    return all([value[i] >= value[i + 1] for i in range(len(value) - 1)])


def _demand_partition(mu):
    demand(is_partition(mu), "partition")


def demand_pair(mu, nu):
    """Raises Malformed, for every value, if both are not partitions of one integer."""
    demand(is_partition(mu) and is_partition(nu) and sum(mu) == sum(nu), "partitions of one integer")


def _parts_up_to(d, most):
    """The partitions of d with no part above most, ascending."""
    if d == 0:
        return [()]
    rows = []
    for first in range(1, min(d, most) + 1):
        for rest in _parts_up_to(d - first, first):
            rows.append((first,) + rest)
    return rows


def partitions_of(d):
    """The ascending tuple of all partitions of d."""
    demand(is_integer(d) and d >= 0, "integer from 0 on")
    demand_within(d, GREATEST_SUM, "large")
    return tuple(_parts_up_to(d, d))


def _counted(mu):
    """A dict from each part to its number, the greatest part first."""
    counts = {}
    for part in mu:
        counts[part] = counts.get(part, 0) + 1
    return counts


def part_counts(mu):
    """The pairs of a part and its number, the greatest part first."""
    _demand_partition(mu)
    return tuple(_counted(mu).items())


def centralizer_order(mu):
    """The product of all j^m m!, for m parts that are j."""
    _demand_partition(mu)
    order = 1
    for part, many in _counted(mu).items():
        order = order * raised_to(part, many) * factorial_of(many)
    return order


def repeat_number(mu):
    """The product of all m!, for m equal parts."""
    _demand_partition(mu)
    number = 1
    for many in _counted(mu).values():
        number = number * factorial_of(many)
    return number


def class_size(mu):
    """The number of the permutations with these cycle lengths."""
    _demand_partition(mu)
    return factorial_of(sum(mu)) // centralizer_order(mu)


def conjugate_of(mu):
    """The partition whose diagram has rows and columns exchanged."""
    _demand_partition(mu)
    columns = []
    length = len(mu)
    for j in range(mu[0] if mu else 0):
        while mu[length - 1] <= j:
            length -= 1
        columns.append(length)
    return tuple(columns)


def content_sum(mu):
    """The sum of j - i over all cells (i, j)."""
    _demand_partition(mu)
    return sum([part * (part - 1) // 2 - i * part for i, part in enumerate(mu)])


def joined_parts(mu, nu):
    """The partition with the parts of both."""
    _demand_partition(mu)
    _demand_partition(nu)
    return tuple(sorted(mu + nu, reverse=True))


def _rooms_behind(rooms, part):
    """All rows of rooms that are left when the part takes its place in one of them."""
    left = []
    for at, room in enumerate(rooms):
        if room >= part and room not in rooms[:at]:
            rest = rooms[:at] + rooms[at + 1:] + (room - part,)
            left.append(tuple(sorted(rest)))
    return left


def is_refinement(mu, nu):
    """True if the parts of mu can be put into groups with the sums nu."""
    _demand_partition(mu)
    _demand_partition(nu)
    demand_within(max(sum(mu), sum(nu)), GREATEST_SUM, "large")
    if sum(mu) != sum(nu):
        return False
    states = [tuple(sorted(nu))]
    for part in mu:
        found = {}
        for rooms in states:
            for rest in _rooms_behind(rooms, part):
                found[rest] = True
        states = list(found)
    return states != []
