"""Surfaces by cells: chains, loop chains, crossing numbers and fillings."""

from branchsheets.crossings import crossing_rows
from branchsheets.demands import demand, demand_within
from branchsheets.paperforms import are_integers
from branchsheets.permutations import is_permutation
from branchsheets.plainperms import cycle_rows, then
from branchsheets.surfacetrees import edge_rows, face_rows, faces_chain, led_chain, levels_of_faces, loop_rows
from branchsheets.systems import is_closed, is_system
from branchsheets.walks import part_rows

MOST_EDGES = 120


def _edges_of(S):
    return len(S[1]) * S[0]


def demand_surface(S):
    """Raises Malformed, for every value, if it is no closed system."""
    demand(is_system(S) and is_closed(S), "closed system")


def _is_chain(S, value):
    """True if the value is a chain of the closed system S."""
    return are_integers(value, _edges_of(S))


def _demand_chain(S, a):
    demand(_is_chain(S, a), "chain")


def demand_deck_map(S, f):
    """Raises Malformed, for every value, if it is no deck map of the closed system S."""
    demand(is_permutation(f) and len(f) == S[0], "deck map")
    demand(all([then(f, p) == then(p, f) for p in S[1]]), "deck map")


def demand_small(S):
    """Raises Refused if there are more than 120 edges."""
    demand_within(_edges_of(S), MOST_EDGES, "large")


def _boundary(S, a):
    """How often the chain comes to each sheet, less how often it leaves it."""
    sums = [0] * S[0]
    for many, (x, y) in zip(a, edge_rows(S)):
        sums[y] += many
        sums[x] -= many
    return tuple(sums)


def is_loop(S, value):
    """True if the value is a loop chain of the closed system S."""
    return _is_chain(S, value) and all([many == 0 for many in _boundary(S, value)])


def demand_loop(S, a):
    """Raises Malformed, for every value, if it is no loop chain of the closed system S."""
    demand(is_loop(S, a), "loop chain")


def cell_numbers(S):
    """The numbers of points, edges and faces."""
    demand_surface(S)
    demand_small(S)
    return (S[0], _edges_of(S), len(face_rows(S)))


def face_chains(S):
    """The tuple of the chains of the faces, the petals first."""
    demand_surface(S)
    demand_small(S)
    return tuple([faces_chain(S, [face], [1]) for face in face_rows(S)])


def chain_boundary(S, a):
    """The boundary of a chain: one integer for each sheet."""
    demand_surface(S)
    _demand_chain(S, a)
    demand_small(S)
    return _boundary(S, a)


def is_loop_chain(S, a):
    """True if the boundary is 0 everywhere."""
    return all([many == 0 for many in chain_boundary(S, a)])


def loop_rank(S):
    """The rank of the group of the loop chains up to filled ones."""
    points, edges, faces = cell_numbers(S)
    parts = len(part_rows(S[0], S[1]))
    return edges - (points - parts) - (faces - parts)


def loop_basis(S):
    """A basis of the loop chains up to filled ones."""
    demand_surface(S)
    demand_small(S)
    return tuple(loop_rows(S))


def crossing_number(S, a, b):
    """The crossing number of two loop chains."""
    return crossing_table(S, (a, b))[0][1]


def crossing_table(S, chains):
    """The tuple of the rows of the crossing numbers of some loop chains."""
    demand_surface(S)
    demand(isinstance(chains, tuple), "tuple of chains")
    for a in chains:
        _demand_chain(S, a)
    demand_small(S)
    for a in chains:
        demand_loop(S, a)
    return crossing_rows(S, chains, chains)


def filling_of(S, a):
    """How often to take each face, to make up the loop chain of their chains; None if it is not filled."""
    demand_surface(S)
    _demand_chain(S, a)
    demand_small(S)
    demand_loop(S, a)
    times = levels_of_faces(S, a)
    return tuple(times) if faces_chain(S, face_rows(S), times) == a else None


def _demand_moved(S, f):
    demand_surface(S)
    demand_deck_map(S, f)


def moved_chain(S, f, a):
    """The chain to which a deck map leads a chain."""
    _demand_moved(S, f)
    _demand_chain(S, a)
    demand_small(S)
    return led_chain(S, f, a)


def deck_trace(S, f):
    """The trace of a deck map on the loop chains up to filled ones."""
    petals = fixed_petals(S, f)
    points = sum([1 for x, y in enumerate(f) if x == y])
    parts = sum([1 for part in part_rows(S[0], S[1]) if f[part[0]] in part])
    # The trace on the edges, less those on boundaries and on chains of faces (Hopf).
    return len(S[1]) * points - (points - parts) - (petals + points - parts)


def fixed_petals(S, f):
    """The number of the petals that a deck map leads to themselves."""
    _demand_moved(S, f)
    demand_small(S)
    cycles = [cycle for p in S[1] for cycle in cycle_rows(p)]
    return sum([1 for cycle in cycles if f[cycle[0]] in cycle])
