"""Fibre products, closures, coset systems, and equal numbers of fixed sheets."""

from branchsheets.demands import demand_within
from branchsheets.errors import Refused
from branchsheets.permutations import order_of
from branchsheets.plainperms import lengths_of, then, unit_of
from branchsheets.systems import demand_rank, demand_sheet, demand_sheets, demand_system, is_closed, refuse_unconnected
from branchsheets.towers import tower_of
from branchsheets.walks import genus_by_types, narrowed, part_rows, reached_from
from branchsheets.wordspans import first_unlike

MOST_SHEETS = 24
MOST_COMPARED = 8


def _pair_rows(S, T):
    """The permutations of the pairs: (x, y) has the number x e + y, so pairs ascend with numbers."""
    e = T[0]
    return tuple([tuple([x * e + y for x in p for y in q]) for p, q in zip(S[1], T[1])])


def _part_numbers(S, T):
    """The parts as ascending lists of the numbers of their pairs."""
    return part_rows(S[0] * T[0], _pair_rows(S, T))


def _pairs_of(T, numbers):
    return tuple([divmod(number, T[0]) for number in numbers])


def product_parts(S, T):
    """The ascending tuple of the parts, each one the ascending tuple of its pairs."""
    demand_rank(S, T)
    return tuple([_pairs_of(T, part) for part in _part_numbers(S, T)])


def product_datum(S, T):
    """The tuple of the cycle types of the letters on all pairs."""
    demand_rank(S, T)
    return tuple([lengths_of(p) for p in _pair_rows(S, T)])


def _numbers_with(S, T, x, y):
    """The numbers of the pairs of the part with (x, y), ascending; Malformed for other values."""
    demand_rank(S, T)
    demand_sheet(S, x)
    demand_sheet(T, y)
    return sorted(reached_from(_pair_rows(S, T), x * T[0] + y))


def part_with(S, T, x, y):
    """The part with a pair."""
    return _pairs_of(T, _numbers_with(S, T, x, y))


def _part_rows_with(S, T, numbers):
    """The permutations of the letters on a part, its pairs numbered in ascending order."""
    return narrowed(_pair_rows(S, T), numbers)


def part_datum(S, T, x, y):
    """The tuple of the cycle types of the letters on the part with a pair."""
    numbers = _numbers_with(S, T, x, y)
    return tuple([lengths_of(p) for p in _part_rows_with(S, T, numbers)])


def part_genus(S, T, x, y):
    """The genus of the part with a pair, of closed systems."""
    numbers = _numbers_with(S, T, x, y)
    if not (is_closed(S) and is_closed(T)):
        raise Refused("closed")
    types = [lengths_of(p) for p in _part_rows_with(S, T, numbers)]
    return genus_by_types(len(numbers), types)


def part_system(S, T, x, y):
    """The system of the part with a pair."""
    numbers = _numbers_with(S, T, x, y)
    demand_within(len(numbers), MOST_SHEETS, "large")
    return (len(numbers), _part_rows_with(S, T, numbers))


def subdegrees(S):
    """The ascending tuple of the numbers of sheets of the orbits of the members that leave 0."""
    demand_system(S)
    refuse_unconnected(S)
    return tuple(sorted([len(part) // S[0] for part in _part_numbers(S, S)]))


def closure_genus(S):
    """The genus of the closure, told by the order of the group and those of its permutations."""
    demand_system(S)
    refuse_unconnected(S)
    if not is_closed(S):
        raise Refused("closed")
    n = tower_of(S[0], S[1]).order()
    loss = sum([n - n // order_of(p) for p in S[1]])
    return (2 - 2 * n + loss) // 2


def closure_system(S):
    """The system whose sheets are the members of the group, in ascending order."""
    demand_system(S)
    refuse_unconnected(S)
    tower = tower_of(S[0], S[1])
    demand_within(tower.order(), MOST_SHEETS, "large")
    members = tower.members()
    return (len(members), tuple([tuple([members.index(then(g, p)) for g in members]) for p in S[1]]))


def coset_system(S, U):
    """The system whose sheets are the cosets of the members of U, by their least permutations."""
    demand_sheets(S, U)
    all_tower, tower = tower_of(S[0], S[1]), tower_of(U[0], U[1])
    if not all([all_tower.has_member(p) for p in U[1]]):
        raise Refused("within")
    demand_within(all_tower.order() // tower.order(), MOST_SHEETS, "large")
    ahead = {}
    waiting = [unit_of(S[0])]
    while waiting:
        g = waiting.pop()
        if g not in ahead:
            ahead[g] = [tower.least_beside(then(g, p), 0) for p in S[1]]
            waiting.extend(ahead[g])
    numbers = {g: at for at, g in enumerate(sorted(ahead))}
    rows = [[numbers[h] for h in ahead[g]] for g in sorted(ahead)]
    return (len(rows), tuple([tuple([row[at] for row in rows]) for at in range(len(S[1]))]))


def _have_equal_fixed(S, T):
    # The mean of the squares of the differences, told by numbers of parts.
    own = len(_part_numbers(S, S)) + len(_part_numbers(T, T))
    return own == 2 * len(_part_numbers(S, T))


def _demand_compared(S, T):
    demand_rank(S, T)
    demand_within(max(S[0], T[0]), MOST_COMPARED, "large")


def has_equal_fixed(S, T):
    """True if each word leaves equally many sheets of both."""
    _demand_compared(S, T)
    return _have_equal_fixed(S, T)


def least_unlike_fixed(S, T):
    """The least word that leaves unlike numbers of sheets, or None."""
    _demand_compared(S, T)
    return None if _have_equal_fixed(S, T) else first_unlike(S, T)
