"""Papers of renumberings, numbers of swaps, and loop chains of surfaces."""

from branchsheets.cells import demand_deck_map, demand_loop, demand_small, demand_surface, filling_of
from branchsheets.crossings import crossing_rows
from branchsheets.demands import demand
from branchsheets.echelons import free_columns
from branchsheets.permutations import is_permutation, least_conjugator, swaps_of
from branchsheets.plainperms import cycle_rows
from branchsheets.surfacetrees import led_chain, loop_factors, loop_rows
from branchsheets.whole import is_integer

MOST_SWAPS = 200
MOST_CHAINS = 12


def demand_renumbered(p, q):
    """Raises Malformed, for every value, if both are not permutations of as many sheets."""
    demand(is_permutation(p) and is_permutation(q) and len(p) == len(q), "permutations of as many sheets")


def demand_swaps(p, m):
    """Raises Malformed, for every value, if both are not a permutation and an integer from 0 to 200."""
    demand(is_permutation(p), "permutation")
    demand(is_integer(m) and 0 <= m <= MOST_SWAPS, "number of swaps")


def demand_filled(S, a):
    """Raises Malformed, for every value, or Refused, if both are not a small closed system and a loop chain."""
    demand_surface(S)
    demand_loop(S, a)
    demand_small(S)


def demand_independent(S, chains):
    """Raises Malformed, for every value, or Refused, if these are not such a system and at most 12 loop chains."""
    demand_surface(S)
    demand(isinstance(chains, tuple) and len(chains) <= MOST_CHAINS, "tuple of loop chains")
    for a in chains:
        demand_loop(S, a)
    demand_small(S)


def demand_trace(S, f):
    """Raises Malformed, for every value, or Refused, if both are not such a system and a deck map."""
    demand_surface(S)
    demand_deck_map(S, f)
    demand_small(S)


def cycles_of_length(p, m):
    """The tuple of the cycles of a length."""
    return tuple([cycle for cycle in cycle_rows(p) if len(cycle) == m])


def renumbered_paper(p, q):
    """A paper that a permutation can be renumbered into another one, or that it can not."""
    demand_renumbered(p, q)
    f = least_conjugator(p, q)
    if f is not None:
        return ("by", f)
    m = len(p)
    while len(cycles_of_length(p, m)) == len(cycles_of_length(q, m)):
        m -= 1
    return ("lengths", m, cycles_of_length(p, m), cycles_of_length(q, m))


def swaps_paper(p, m):
    """A paper that a permutation is a product of m swaps, or that it is not."""
    demand_swaps(p, m)
    if len(p) < 2 and m > 0:
        return ("still",)
    row = swaps_of(p)
    if len(row) > m:
        return ("short", tuple(cycle_rows(p)))
    if (m - len(row)) & 1:
        return ("sign", tuple(cycle_rows(p)))
    # Two swaps more can be the same one twice.
    return ("swaps", row + ((0, 1),) * (m - len(row)))


def filled_paper(S, a):
    """A paper that a loop chain is filled, or that another one crosses it."""
    demand_filled(S, a)
    times = filling_of(S, a)
    if times is not None:
        return ("filled", times)
    loops = loop_rows(S)
    row = crossing_rows(S, [a], loops)[0]
    return ("crossed", [loop for loop, number in zip(loops, row) if number != 0][0])


def summed_chain(S, chains, factors):
    """The sum of some chains, each so many times."""
    total = [0] * (len(S[1]) * S[0])
    for chain, factor in zip(chains, factors):
        total = [many + factor * more for many, more in zip(total, chain)]
    return tuple(total)


def independent_paper(S, chains):
    """A paper that no sum of multiples of some loop chains is filled, or that one is."""
    demand_independent(S, chains)
    loops = loop_rows(S)
    columns, factors = free_columns(crossing_rows(S, chains, loops), len(loops))
    if factors is None:
        return ("apart", tuple([loops[column] for column in columns]))
    return ("tied", factors, filling_of(S, summed_chain(S, chains, factors)))


def trace_paper(S, f):
    """A paper of the trace of a deck map."""
    demand_trace(S, f)
    loops = loop_rows(S)
    rows = [tuple(loop_factors(S, led_chain(S, f, loop))) for loop in loops]
    trace = sum([row[at] for at, row in enumerate(rows)])
    return ("trace", trace, tuple(loops), tuple(rows))
