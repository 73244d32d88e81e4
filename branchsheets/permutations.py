"""Permutations of sheets: products, cycles, renumberings and swaps."""

from branchsheets.demands import demand, demand_within
from branchsheets.partitions import centralizer_order, is_partition
from branchsheets.plainperms import cycle_rows, from_cycles, lengths_of, swaps_made, then, turned, turned_about
from branchsheets.plainperms import unit_of
from branchsheets.whole import is_integer, least_common

MOST_SHEETS = 60
MOST_PARTNERS = 5040
MOST_LISTED = 8


def is_permutation(value):
    if not isinstance(value, tuple):
        return False
    seen = [False] * len(value)
    for x in value:
        if not is_integer(x) or x < 0 or x >= len(value) or seen[x]:
            return False
        seen[x] = True
    return True


def _demand_one(p):
    demand(is_permutation(p), "permutation")


def _demand_two(p, q):
    _demand_one(p)
    _demand_one(q)
    demand(len(p) == len(q), "permutations of as many sheets")


def _demand_row(rows, d):
    demand(isinstance(rows, (tuple, list)), "tuple or list")
    demand(is_integer(d) and 0 <= d <= MOST_SHEETS, "number of sheets")


def product_of(p, q):
    """The product: p is done first."""
    _demand_two(p, q)
    return then(p, q)


def inverse_of(p):
    _demand_one(p)
    return turned(p)


def power_of(p, k):
    """p done k times, or its inverse -k times."""
    _demand_one(p)
    demand(is_integer(k), "integer")
    images = [0] * len(p)
    for cycle in cycle_rows(p):
        ahead = k % len(cycle)
        for x, y in zip(cycle, cycle[ahead:] + cycle[:ahead]):
            images[x] = y
    return tuple(images)


def product_row(perms, d):
    """The product of permutations of d sheets, in order."""
    _demand_row(perms, d)
    demand(all([is_permutation(p) and len(p) == d for p in perms]), "row of permutations")
    product = unit_of(d)
    for p in perms:
        product = then(product, p)
    return product


def cycles_of(p):
    """The cycles, each from its least sheet on, ascending."""
    _demand_one(p)
    return tuple(cycle_rows(p))


def cycle_type(p):
    """The partition of the lengths of the cycles."""
    _demand_one(p)
    return lengths_of(p)


def order_of(p):
    """The least power from 1 on that leaves all sheets."""
    _demand_one(p)
    order = 1
    for length in lengths_of(p):
        order = least_common(order, length)
    return order


def sign_of(p):
    """1 or -1, as the sheets less the cycles are even or odd."""
    _demand_one(p)
    return -1 if (len(p) - len(cycle_rows(p))) & 1 else 1


def conjugate_by(p, f):
    """p renumbered by f: it leads f[x] to f[p[x]]."""
    _demand_two(p, f)
    return turned_about(p, f)


def _matched(f, cycle, q, y):
    """The images f, with a cycle led to that of q with y, from y on."""
    images = list(f)
    for x in cycle:
        images[x] = y
        y = q[y]
    return images


def least_conjugator(p, q):
    """The least f that renumbers p into q, or None."""
    _demand_two(p, q)
    if lengths_of(p) != lengths_of(q):
        return None
    waiting = {}
    for cycle in cycle_rows(q)[::-1]:
        waiting.setdefault(len(cycle), []).append(cycle)
    f = [0] * len(p)
    # The first free sheet is the least of its cycle: what it is led to decides, so the least is taken.
    for cycle in cycle_rows(p):
        for x, y in zip(cycle, waiting[len(cycle)].pop()):
            f[x] = y
    return tuple(f)


def _lengths_at(p):
    """For each sheet the length of its cycle."""
    lengths = [0] * len(p)
    for cycle in cycle_rows(p):
        for x in cycle:
            lengths[x] = len(cycle)
    return lengths


def partners_of(p):
    """The ascending tuple of the permutations that renumber p into itself."""
    _demand_one(p)
    demand_within(centralizer_order(lengths_of(p)), MOST_PARTNERS, "many")
    lengths = _lengths_at(p)
    rows = [[None] * len(p)]
    for cycle in cycle_rows(p):
        alike = [y for y in range(len(p)) if lengths[y] == len(cycle)]
        rows = [_matched(f, cycle, p, y) for f in rows for y in alike if y not in f]
    return tuple(sorted([tuple(f) for f in rows]))


def _cycles_from(start, others, length):
    """All cycles of this length that begin with a sheet and go on with some of the others."""
    rows = [(start,)]
    for _ in range(length - 1):
        rows = [row + (x,) for row in rows for x in others if x not in row]
    return rows


def _cycles_of_lengths(sheets, lengths):
    """All rows of cycles with these lengths that have each of the ascending sheets once."""
    if not sheets:
        return [()]
    rows = []
    for at, length in enumerate(lengths):
        if length in lengths[:at]:
            continue
        for cycle in _cycles_from(sheets[0], sheets[1:], length):
            rest = [x for x in sheets if x not in cycle]
            for others in _cycles_of_lengths(rest, lengths[:at] + lengths[at + 1:]):
                rows.append((cycle,) + others)
    return rows


def permutations_of_type(mu):
    """The ascending tuple of all permutations with this cycle type."""
    demand(is_partition(mu), "partition")
    d = sum(mu)
    demand_within(d, MOST_LISTED, "large")
    return tuple(sorted([from_cycles(d, cycles) for cycles in _cycles_of_lengths(list(range(d)), mu)]))


def least_of_type(mu):
    """The least permutation with this cycle type."""
    demand(is_partition(mu), "partition")
    demand_within(sum(mu), MOST_SHEETS, "large")
    images = []
    # Short cycles lead back early, so they stand in front.
    for length in mu[::-1]:
        start = len(images)
        images.extend(list(range(start + 1, start + length)))
        images.append(start)
    return tuple(images)


def swaps_of(p):
    """The told swaps: for each cycle its first sheet with each other one."""
    _demand_one(p)
    return tuple([(cycle[0], x) for cycle in cycle_rows(p) for x in cycle[1:]])


def is_swap(value, d):
    """True if the value is a swap of d sheets."""
    if not (isinstance(value, tuple) and len(value) == 2):
        return False
    a, b = value
    return is_integer(a) and is_integer(b) and 0 <= a < b < d


def are_swaps(value, many, d):
    """True if the value is a tuple of so many swaps of d sheets."""
    return isinstance(value, tuple) and len(value) == many and all([is_swap(swap, d) for swap in value])


def swap_product(swaps, d):
    """The product of swaps of d sheets, in order."""
    _demand_row(swaps, d)
    demand(all([is_swap(swap, d) for swap in swaps]), "row of swaps")
    return swaps_made(swaps, d)
