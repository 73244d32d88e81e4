"""The judges of the papers of renumberings, numbers of swaps, and loop chains of surfaces."""

from branchsheets.cells import is_loop, loop_rank
from branchsheets.crossings import crossing_rows
from branchsheets.echelons import determinant_of, is_regular
from branchsheets.paperforms import are_integers, is_form, is_same, is_tuple_of
from branchsheets.permutations import are_swaps, is_permutation
from branchsheets.plainperms import cycle_rows, swaps_made, turned_about
from branchsheets.surfacepapers import cycles_of_length, demand_filled, demand_independent, demand_renumbered
from branchsheets.surfacepapers import demand_swaps, demand_trace, summed_chain
from branchsheets.surfacetrees import face_rows, faces_chain, led_chain
from branchsheets.whole import is_integer


def takes_renumbered(p, q, paper):
    """True if the paper shows that a permutation can be renumbered into another one, or that it can not."""
    demand_renumbered(p, q)
    if is_form(paper, "by", 1):
        f = paper[1]
        return is_permutation(f) and len(f) == len(p) and turned_about(p, f) == q
    if is_form(paper, "lengths", 3):
        _, m, one, two = paper
        if not (is_integer(m) and is_same(one, cycles_of_length(p, m)) and is_same(two, cycles_of_length(q, m))):
            return False
        return len(one) != len(two)
    return False


def takes_swaps(p, m, paper):
    """True if the paper shows that a permutation is a product of m swaps, or that it is not."""
    demand_swaps(p, m)
    cycles = tuple(cycle_rows(p))
    least = len(p) - len(cycles)
    if is_form(paper, "swaps", 1):
        return are_swaps(paper[1], m, len(p)) and swaps_made(paper[1], len(p)) == p
    if is_form(paper, "short", 1):
        return least > m and is_same(paper[1], cycles)
    if is_form(paper, "sign", 1):
        return (least - m) & 1 == 1 and is_same(paper[1], cycles)
    return is_form(paper, "still", 0) and len(p) < 2 and m > 0


def _fills(S, times, a):
    """True if a value has an integer for each face, with which the faces add up to a chain."""
    faces = face_rows(S)
    return are_integers(times, len(faces)) and faces_chain(S, faces, times) == a


def takes_filled(S, a, paper):
    """True if the paper shows that a loop chain is filled, or that it is not."""
    demand_filled(S, a)
    if is_form(paper, "filled", 1):
        return _fills(S, paper[1], a)
    if is_form(paper, "crossed", 1):
        return is_loop(S, paper[1]) and crossing_rows(S, [a], [paper[1]])[0][0] != 0
    return False


def _are_loops(S, value, many):
    """True if a value is a tuple of so many loop chains."""
    return is_tuple_of(value, many) and all([is_loop(S, a) for a in value])


def takes_independent(S, chains, paper):
    """True if the paper shows that no sum of multiples of some loop chains is filled, or that one is."""
    demand_independent(S, chains)
    if is_form(paper, "apart", 1):
        return _are_loops(S, paper[1], len(chains)) and is_regular(crossing_rows(S, chains, paper[1]))
    if is_form(paper, "tied", 2):
        _, factors, times = paper
        if not (are_integers(factors, len(chains)) and any([factor != 0 for factor in factors])):
            return False
        return _fills(S, times, summed_chain(S, chains, factors))
    return False


def _is_moved(S, f, chains, rows):
    """True if each chain is led by f to what crosses the chains as often as the sum that its row tells."""
    table = crossing_rows(S, chains, chains)
    moved = crossing_rows(S, [led_chain(S, f, a) for a in chains], chains)
    if determinant_of(table) != 1:
        return False
    columns = list(zip(*table))
    told = [tuple([sum([n * m for n, m in zip(row, column)]) for column in columns]) for row in rows]
    return told == list(moved)


def takes_trace(S, f, paper):
    """True if the paper shows the trace of a deck map."""
    demand_trace(S, f)
    if not is_form(paper, "trace", 3):
        return False
    _, t, chains, rows = paper
    many = loop_rank(S)
    if not (_are_loops(S, chains, many) and is_tuple_of(rows, many) and all([are_integers(row, many) for row in rows])):
        return False
    if not (is_integer(t) and t == sum([row[at] for at, row in enumerate(rows)])):
        return False
    return _is_moved(S, f, chains, rows)
