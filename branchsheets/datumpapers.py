"""Papers of data of covers, of swaps that join all sheets, and of permutations below the long cycle."""

from branchsheets.classalgebra import product_rows
from branchsheets.coverings import is_datum
from branchsheets.cyclefactors import crossing_of, joining_swaps, other_side
from branchsheets.demands import demand
from branchsheets.partitions import partitions_of
from branchsheets.permutations import is_permutation, permutations_of_type, swaps_of
from branchsheets.plainperms import cycle_rows, lengths_of, then, turned, unit_of
from branchsheets.whole import is_integer

MOST_DATUM_SHEETS = 8
MOST_SHEETS = 24
MOST_SWAPS = 200


def demand_datum(d, data):
    """Raises Malformed, for every value, if both are not a number of sheets from 1 to 8 and a datum for them."""
    demand(is_integer(d) and 1 <= d <= MOST_DATUM_SHEETS, "number of sheets")
    demand(is_datum(data, d), "datum")


def demand_joining(p, r):
    """Raises Malformed, for every value, if both are not a permutation of 2 to 24 sheets and a number of swaps."""
    demand(is_permutation(p) and 2 <= len(p) <= MOST_SHEETS, "permutation of 2 to 24 sheets")
    demand(is_integer(r) and 0 <= r <= MOST_SWAPS, "number of swaps")


def demand_below(p):
    """Raises Malformed, for every value, if it is no permutation of 1 to 24 sheets."""
    demand(is_permutation(p) and 1 <= len(p) <= MOST_SHEETS, "permutation of 1 to 24 sheets")


def is_odd_datum(d, data):
    """True if the sum of all losses is odd."""
    return sum([d - len(mu) for mu in data]) & 1 == 1


def _factors_of(d, data, rows):
    """Permutations of the types of a datum whose product leaves all sheets, rows being the products of class rows."""
    types = partitions_of(d)
    product = unit_of(d)
    perms = []
    # From the last one on, a permutation is taken if what is left is a product of the types before.
    for mu, row in list(zip(data, rows))[::-1]:
        made = {lam: True for lam, n in zip(types, row) if n > 0}
        for p in permutations_of_type(mu):
            rest = then(product, turned(p))
            if lengths_of(rest) in made:
                perms.append(p)
                product = rest
                break
    return tuple(perms[::-1])


def datum_paper(d, data):
    """A paper that there is a system with a datum, or that there is none."""
    demand_datum(d, data)
    if is_odd_datum(d, data):
        return ("odd",)
    rows = product_rows(data, d)
    if rows[-1][0] == 0:
        return ("rows", tuple(rows))
    return ("system", _factors_of(d, data, rows))


def joining_paper(p, r):
    """A paper that a permutation is a product of r swaps that join all sheets, or that it is not."""
    demand_joining(p, r)
    row = joining_swaps(p)
    if r < len(row):
        return ("short",)
    if (r - len(row)) & 1:
        return ("odd",)
    return ("swaps", row + ((0, 1),) * (r - len(row)))


def _descent_of(cycle):
    """Sheets x < y < z of a cycle that is led from x to z in fewer steps than to y."""
    at = 1
    while cycle[at] < cycle[at + 1]:
        at += 1
    return (cycle[0], cycle[at + 1], cycle[at])


def below_paper(p):
    """A paper that a permutation lies below the long cycle, or that it does not."""
    demand_below(p)
    found = crossing_of(p)
    if found is None:
        return ("chain", swaps_of(p) + swaps_of(other_side(p)))
    if found[0] == "crossing":
        return found
    cycles = [cycle for cycle in cycle_rows(p) if cycle[0] == found[1]]
    return ("cycle",) + _descent_of(cycles[0])
