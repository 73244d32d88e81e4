"""Surfaces by cells: chains, loop chains, crossing numbers and fillings."""

from branchsheets.demands import demand, demand_within
from branchsheets.permutations import is_permutation
from branchsheets.plainperms import cycle_rows, then, turned
from branchsheets.surfacetrees import edge_rows, face_rows, loop_rows, levels_of_faces
from branchsheets.systems import is_closed, is_system
from branchsheets.walks import part_rows
from branchsheets.whole import is_integer

MOST_EDGES = 120


def _edges_of(S):
    return len(S[1]) * S[0]


def _demand_surface(S):
    demand(is_system(S) and is_closed(S), "closed system")


def _demand_chain(S, a):
    demand(isinstance(a, tuple) and len(a) == _edges_of(S), "chain")
    demand(all(is_integer(many) for many in a), "chain")


def _demand_deck_map(S, f):
    demand(is_permutation(f) and len(f) == S[0], "deck map")
    demand(all(then(f, p) == then(p, f) for p in S[1]), "deck map")


def _demand_small(S):
    demand_within(_edges_of(S), MOST_EDGES, "large")


def _boundary(S, a):
    """How often the chain comes to each sheet, less how often it leaves it."""
    sums = [0] * S[0]
    for many, (x, y) in zip(a, edge_rows(S)):
        sums[y] += many
        sums[x] -= many
    return tuple(sums)


def _demand_loop_chain(S, a):
    demand(all(many == 0 for many in _boundary(S, a)), "loop chain")


def cell_numbers(S):
    """The numbers of points, edges and faces."""
    _demand_surface(S)
    _demand_small(S)
    return (S[0], _edges_of(S), len(face_rows(S)))


def face_chains(S):
    """The tuple of the chains of the faces, the petals first."""
    _demand_surface(S)
    _demand_small(S)
    return tuple([_chain_of(S, face) for face in face_rows(S)])


def _chain_of(S, edges):
    chain = [0] * _edges_of(S)
    for edge in edges:
        chain[edge] += 1
    return tuple(chain)


def chain_boundary(S, a):
    """The boundary of a chain: one integer for each sheet."""
    _demand_surface(S)
    _demand_chain(S, a)
    _demand_small(S)
    return _boundary(S, a)


def is_loop_chain(S, a):
    """True if the boundary is 0 everywhere."""
    return all([many == 0 for many in chain_boundary(S, a)])


def loop_rank(S):
    """The rank of the group of the loop chains up to filled ones."""
    points, edges, faces = cell_numbers(S)
    parts = len(part_rows(S[0], S[1]))
    return edges - (points - parts) - (faces - parts)


def loop_basis(S):
    """A basis of the loop chains up to filled ones."""
    _demand_surface(S)
    _demand_small(S)
    return tuple(loop_rows(S))


def _ends_at(S, a):
    """For each sheet the numbers of the chain at the ends round the point, minus signs at ends coming in."""
    d, perms = S
    backs = [turned(p) for p in perms]
    rows = []
    for x in range(d):
        ends = []
        for at, back in enumerate(backs):
            ends.append(a[at * d + x])
            ends.append(-a[at * d + back[x]])
        rows.append(ends)
    return rows


def _crossing(ones, others):
    """The crossing number of two loop chains, told by their numbers at the ends."""
    double = 0
    for us, vs in zip(ones, others):
        u_sum, v_sum = 0, 0
        for u, v in zip(us, vs):
            double += u_sum * v - u * v_sum
            u_sum += u
            v_sum += v
    return double // 2


def crossing_number(S, a, b):
    """The crossing number of two loop chains."""
    return crossing_table(S, (a, b))[0][1]


def crossing_table(S, chains):
    """The tuple of the rows of the crossing numbers of some loop chains."""
    _demand_surface(S)
    demand(isinstance(chains, tuple), "tuple of chains")
    for a in chains:
        _demand_chain(S, a)
    _demand_small(S)
    for a in chains:
        _demand_loop_chain(S, a)
    ends = [_ends_at(S, a) for a in chains]
    return tuple([tuple([_crossing(one, other) for other in ends]) for one in ends])


def filling_of(S, a):
    """How often to take each face, to make up the loop chain of their chains; None if it is not filled."""
    _demand_surface(S)
    _demand_chain(S, a)
    _demand_small(S)
    _demand_loop_chain(S, a)
    faces = face_rows(S)
    times = levels_of_faces(S, a)
    sums = [0] * _edges_of(S)
    for many, face in zip(times, faces):
        for edge in face:
            sums[edge] += many
    return tuple(times) if tuple(sums) == a else None


def _demand_moved(S, f):
    _demand_surface(S)
    _demand_deck_map(S, f)


def moved_chain(S, f, a):
    """The chain to which a deck map leads a chain."""
    _demand_moved(S, f)
    _demand_chain(S, a)
    _demand_small(S)
    d = S[0]
    moved = [0] * len(a)
    for at, many in enumerate(a):
        moved[at - at % d + f[at % d]] = many
    return tuple(moved)


def deck_trace(S, f):
    """The trace of a deck map on the loop chains up to filled ones."""
    petals = fixed_petals(S, f)
    points = sum([1 for x, y in enumerate(f) if x == y])
    parts = sum([1 for part in part_rows(S[0], S[1]) if f[part[0]] in part])
    # The trace on the edges, less those on boundaries and on chains of faces (Hopf).
    return len(S[1]) * points - (points - parts) - (petals + points - parts)


def fixed_petals(S, f):
    """The number of the petals that a deck map leads to themselves."""
    _demand_moved(S, f)
    _demand_small(S)
    cycles = [cycle for p in S[1] for cycle in cycle_rows(p)]
    return sum([1 for cycle in cycles if f[cycle[0]] in cycle])
