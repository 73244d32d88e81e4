"""The judges of the papers of data, of swaps that join all sheets, and of what lies below the long cycle."""

from branchsheets.classalgebra import product_rows
from branchsheets.cyclefactors import long_cycle, swap_length
from branchsheets.datumpapers import demand_below, demand_datum, demand_joining, is_odd_datum
from branchsheets.joins import join_two
from branchsheets.paperforms import are_integers, is_form, is_same, is_tuple_of
from branchsheets.permutations import are_swaps, is_permutation
from branchsheets.plainperms import cycle_rows, lengths_of, swaps_made, unit_of
from branchsheets.walks import row_product


def _has_datum(d, data, perms):
    """True if a value is a tuple of permutations of the types of a datum whose product leaves all sheets."""
    if not (is_tuple_of(perms, len(data)) and all([is_permutation(p) and len(p) == d for p in perms])):
        return False
    return tuple([lengths_of(p) for p in perms]) == data and row_product(d, perms) == unit_of(d)


def _are_products(value, rows):
    """True if a value is the tuple of some class rows, the last of which has no permutation that leaves all sheets."""
    return rows[-1][0] == 0 and is_same(value, tuple(rows))


def takes_datum(d, data, paper):
    """True if the paper shows that there is a system with a datum, or that there is none."""
    demand_datum(d, data)
    if is_form(paper, "system", 1):
        return _has_datum(d, data, paper[1])
    if is_form(paper, "odd", 0):
        return is_odd_datum(d, data)
    if is_form(paper, "rows", 1):
        return is_tuple_of(paper[1], len(data) + 1) and _are_products(paper[1], product_rows(data, d))
    return False


def _joins_all(row, d):
    """True if some swaps lead each sheet to each other one."""
    above = list(range(d))
    return len([swap for swap in row if join_two(above, swap[0], swap[1])]) == d - 1


def takes_joining(p, r, paper):
    """True if the paper shows that a permutation is a product of r swaps that join all sheets, or that it is not."""
    demand_joining(p, r)
    d = len(p)
    least = d + len(cycle_rows(p)) - 2
    if is_form(paper, "swaps", 1):
        row = paper[1]
        return are_swaps(row, r, d) and swaps_made(row, d) == p and _joins_all(row, d)
    if is_form(paper, "short", 0):
        return r < least
    return is_form(paper, "odd", 0) and (r - least) & 1 == 1


def _is_chain(row, p):
    """True if a value is a row of d - 1 swaps with the long cycle as its product, and the first of them make p."""
    d = len(p)
    if not are_swaps(row, d - 1, d):
        return False
    return swaps_made(row, d) == long_cycle(d) and swaps_made(row[:swap_length(p)], d) == p


def _cycle_with(p, x):
    """The cycle of a sheet, written from it on."""
    cycle = [x]
    while p[cycle[-1]] != x:
        cycle.append(p[cycle[-1]])
    return cycle


def _are_ascending_sheets(sheets, many, d):
    """True if a value is a tuple of so many sheets, each above the one before."""
    if not (are_integers(sheets, many) and 0 <= sheets[0] and sheets[-1] < d):
        return False
    return all([sheets[at] < sheets[at + 1] for at in range(many - 1)])


def _is_descent(p, x, y, z):
    cycle = _cycle_with(p, x)
    return y in cycle and z in cycle and cycle.index(z) < cycle.index(y)


def _is_crossing(p, x, y, z, w):
    one, other = _cycle_with(p, x), _cycle_with(p, y)
    return z in one and w in other and y not in one


def takes_below(p, paper):
    """True if the paper shows that a permutation lies below the long cycle, or that it does not."""
    demand_below(p)
    if is_form(paper, "chain", 1):
        return _is_chain(paper[1], p)
    if is_form(paper, "cycle", 3):
        _, x, y, z = paper
        return _are_ascending_sheets(paper[1:], 3, len(p)) and _is_descent(p, x, y, z)
    if is_form(paper, "crossing", 4):
        _, x, y, z, w = paper
        return _are_ascending_sheets(paper[1:], 4, len(p)) and _is_crossing(p, x, y, z, w)
    return False
