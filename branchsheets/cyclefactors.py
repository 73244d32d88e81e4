"""Factors of the long cycle: partings that do not cross, chains, parking rows, and rows of swaps."""

from branchsheets.demands import demand, demand_within
from branchsheets.partitions import is_partition, repeat_number
from branchsheets.permutations import are_swaps, is_permutation, swaps_of
from branchsheets.plainperms import cycle_rows, exchanged, from_cycles, swaps_made, then, turned
from branchsheets.whole import chosen_of, factorial_of, is_integer

MOST_SHEETS = 24
MOST_LISTED = 8


def _demand_number(n, least):
    demand(is_integer(n) and least <= n <= MOST_SHEETS, "integer to 24")


def _demand_one(p):
    demand(is_permutation(p) and len(p) <= MOST_SHEETS, "permutation")


def _demand_two(p, q):
    _demand_one(p)
    _demand_one(q)
    demand(len(p) == len(q), "permutations of as many sheets")


def _long_cycle(d):
    return tuple([(x + 1) % d for x in range(d)])


def long_cycle(d):
    """The permutation that leads x to x + 1, and the last sheet to 0."""
    _demand_number(d, 0)
    return _long_cycle(d)


def _length_of(p):
    return len(p) - len(cycle_rows(p))


def swap_length(p):
    """The least number of swaps with the product p."""
    _demand_one(p)
    return _length_of(p)


def _is_below(p, q):
    return _length_of(p) + _length_of(then(turned(p), q)) == _length_of(q)


def lies_below(p, q):
    """True if p lies below q."""
    _demand_two(p, q)
    return _is_below(p, q)


def _least_crossing(p):
    """The least sheets x < y < z < w with x, z in one cycle of p and y, w in another one, or None."""
    cycle_at = {x: at for at, cycle in enumerate(cycle_rows(p)) for x in cycle}
    d = len(p)
    for x in range(d):
        for y in range(x + 1, d):
            for z in range(y + 1, d):
                if cycle_at[z] == cycle_at[x] != cycle_at[y]:
                    for w in range(z + 1, d):
                        if cycle_at[w] == cycle_at[y]:
                            return (x, y, z, w)
    return None


def crossing_of(p):
    """None if p lies below the long cycle, otherwise a cycle out of order, or a crossing."""
    _demand_one(p)
    for cycle in cycle_rows(p):
        if list(cycle) != sorted(cycle):
            return ("cycle", cycle[0])
    found = _least_crossing(p)
    return None if found is None else ("crossing",) + found


def _partings(sheets):
    """The lists of the sets, each beginning with its least sheet, of all partings that do not cross."""
    if not sheets:
        return [[]]
    first = sheets[:1]
    found = [[first] + rows for rows in _partings(sheets[1:])]
    for at in range(1, len(sheets)):
        # The next sheet of the first set is sheets[at]: those before it are parted by themselves.
        for inside in _partings(sheets[1:at]):
            for outside in _partings(sheets[at:]):
                found.append([first + outside[0]] + inside + outside[1:])
    return found


def below_cycle(d):
    """The ascending tuple of the permutations below the long cycle."""
    _demand_number(d, 0)
    demand_within(d, MOST_LISTED, "large")
    return tuple(sorted([from_cycles(d, rows) for rows in _partings(tuple(range(d)))]))


def other_side(p):
    """The product of the inverse of p and the long cycle, for a p below it."""
    _demand_one(p)
    cycle = _long_cycle(len(p))
    demand(_is_below(p, cycle), "permutation below the long cycle")
    return then(turned(p), cycle)


def parting_number(mu):
    """The number of the partings that do not cross with sets of these sizes."""
    demand(is_partition(mu) and sum(mu) <= MOST_SHEETS, "partition of an integer to 24")
    d = sum(mu)
    return factorial_of(d) // (factorial_of(d - len(mu) + 1) * repeat_number(mu))


def chain_number(d, k):
    """The number of the chains of k steps below the long cycle."""
    _demand_number(d, 1)
    _demand_number(k, 0)
    return chosen_of((k + 1) * d, d - 1) // d


def is_parking(value):
    """True if the value is a parking row."""
    if not (isinstance(value, tuple) and all([is_integer(n) and n > 0 for n in value])):
        return False
    return all([n <= at + 1 for at, n in enumerate(sorted(value))])


def _demand_cycle_row(row):
    """Raises Malformed if it is no row of d - 1 swaps of d sheets with the long cycle as its product."""
    demand(isinstance(row, tuple) and len(row) < MOST_SHEETS, "row of swaps")
    d = len(row) + 1
    demand(are_swaps(row, d - 1, d), "row of swaps")
    demand(swaps_made(row, d) == _long_cycle(d), "row with the long cycle as its product")


def parking_of(row):
    """The parking row of a row of d - 1 swaps with the long cycle as its product."""
    _demand_cycle_row(row)
    return tuple([a + 1 for a, _ in row])


def _is_parked(p, lesser):
    """True if in each cycle the lesser sheets, told by their places in it, are a parking row of one less."""
    for cycle in cycle_rows(p):
        sheets = sorted(cycle)
        places = sorted([sheets.index(a) + 1 for a in lesser if a in cycle])
        if len(places) != len(cycle) - 1 or not is_parking(tuple(places)):
            return False
    return True


def swaps_of_parking(row):
    """The row of d - 1 swaps with the long cycle as its product, whose lesser sheets a parking row tells."""
    demand(is_parking(row) and len(row) < MOST_SHEETS, "parking row")
    p = _long_cycle(len(row) + 1)
    lesser = [n - 1 for n in row]
    swaps = []
    while lesser:
        a = lesser.pop()
        # A sheet b of another cycle is none of these: it would join both cycles.
        greater = [b for b in range(a + 1, len(p)) if _is_parked(exchanged(p, a, b), lesser)]
        swaps.append((a, greater[0]))
        p = exchanged(p, a, greater[0])
    return tuple(swaps[::-1])


def shortest_swaps(p, q):
    """A shortest row of swaps that leads from p to q."""
    _demand_two(p, q)
    return swaps_of(then(turned(p), q))


def joining_swaps(p):
    """A row of d + m - 2 swaps that join all sheets, with the product p."""
    _demand_one(p)
    demand(len(p) > 0, "permutation of a sheet or more")
    firsts = [cycle[0] for cycle in cycle_rows(p)]
    # The same swap twice joins two cycles and leaves the product.
    twice = [(0, x) for x in firsts[1:] for _ in range(2)]
    return swaps_of(p) + tuple(twice)
