"""What the tests of surfaces use: closed systems, and chains, faces and crossings by hand."""

import random
from fractions import Fraction

from branchsheets.permutations import cycles_of, power_of
from helpers import closed_up, cycle_row, random_permutation, swap_row

EMPTY = [(0, ()), (0, ((), ())), (1, ()), (3, ()), (1, ((0,),)), (2, ((0, 1), (0, 1))), (24, ()), (24, (tuple(range(24)),))]
# As great as is taken: 120 edges, once of 24 sheets, once of 12 permutations.
SHEETS = closed_up((24, tuple(random_permutation(random.Random(i), 24) for i in range(4))))
LETTERS = closed_up((10, tuple(random_permutation(random.Random(i), 10) for i in range(11))))
CUT = closed_up((24, (cycle_row(24), tuple(range(24)), swap_row(24, 3, 9), power_of(cycle_row(24), 5))))
GREAT = [SHEETS, LETTERS, CUT]
ABOVE = [closed_up((11, (cycle_row(11),) * 10)), closed_up((24, (cycle_row(24),) * 5)), closed_up((24, (cycle_row(24),) * 11)),
         (24, (tuple(range(24)),) * 12), closed_up((11, (tuple(range(11)),) * 10))]


def edges_of(T):
    return [(i, x) for i in range(len(T[1])) for x in range(T[0])]


def faces_by_hand(T):
    faces = [[(i, x) for x in cycle] for i, p in enumerate(T[1]) for cycle in cycles_of(p)]
    for x in range(T[0]):
        face = []
        for i, p in enumerate(T[1]):
            face.append((i, x))
            x = p[x]
        faces.append(face)
    return faces


def boundary_by_hand(T, a):
    sums = [0] * T[0]
    for (i, x), many in zip(edges_of(T), a):
        sums[T[1][i][x]] += many
        sums[x] -= many
    return tuple(sums)


def crossing_by_hand(T, a, b):
    d, double = T[0], 0
    for x in range(d):
        rows = []
        for chain in (a, b):
            row = []
            for i, p in enumerate(T[1]):
                row += [chain[i * d + x], -chain[i * d + p.index(x)]]
            rows.append(row)
        u, v = rows
        double += sum(u[s] * v[t] - u[t] * v[s] for t in range(len(u)) for s in range(t))
    assert double % 2 == 0
    return double // 2


def added(*rows):
    return tuple(sum(items) for items in zip(*rows))


def times(n, row):
    return tuple(n * item for item in row)


def summed(T, factors, chains):
    total = (0,) * (T[0] * len(T[1]))
    for n, chain in zip(factors, chains):
        total = added(total, times(n, chain))
    return total


def determinant(rows):
    rows, product = [[Fraction(item) for item in row] for row in rows], Fraction(1)
    for at in range(len(rows)):
        pivot = next((k for k in range(at, len(rows)) if rows[k][at]), None)
        if pivot is None:
            return 0
        if pivot != at:
            rows[at], rows[pivot], product = rows[pivot], rows[at], -product
        product *= rows[at][at]
        for k in range(at + 1, len(rows)):
            factor = rows[k][at] / rows[at][at]
            if factor:
                rows[k] = [one - factor * other for one, other in zip(rows[k], rows[at])]
    return product
