"""Points 8.1 to 8.6: surfaces by cells."""

import itertools
import random
import unittest
from fractions import Fraction

from branchsheets.cells import cell_numbers, chain_boundary, crossing_number, crossing_table, deck_trace, face_chains
from branchsheets.cells import filling_of, fixed_petals, is_loop_chain, loop_basis, loop_rank, moved_chain
from branchsheets.decks import deck_maps
from branchsheets.permutations import cycles_of
from branchsheets.systems import genus_of, is_closed, is_connected, system_beside, system_parts
from helpers import all_permutations, closed_up, connected, cycle_row, inv, malformed
from helpers import malformed_in_each_place, mul, permutation, random_systems, refused, system, whole
from surfaces import ABOVE, EMPTY, GREAT, added, boundary_by_hand, crossing_by_hand, determinant, edges_of
from surfaces import faces_by_hand, summed, times

S = (3, ((1, 2, 0), (1, 2, 0), (1, 2, 0)))
ROWS = [closed_up(R) for R in random_systems(61, 50, 5, 3)] + EMPTY + [S]


def solved(rows, right):
    """The row c with c times the table the right side (the table has the determinant 1)."""
    n = len(rows)
    table = [[Fraction(rows[j][i]) for j in range(n)] + [Fraction(right[i])] for i in range(n)]
    for at in range(n):
        pivot = next(k for k in range(at, n) if table[k][at])
        table[at], table[pivot] = table[pivot], table[at]
        table[at] = [item / table[at][at] for item in table[at]]
        for k in range(n):
            if k != at and table[k][at]:
                factor = table[k][at]
                table[k] = [one - factor * other for one, other in zip(table[k], table[at])]
    return [row[-1] for row in table]


def all_deck_maps(T):
    if T[0] <= 5:
        return [f for f in all_permutations(T[0]) if all(mul(f, p) == mul(p, f) for p in T[1])]
    return list(deck_maps(T)) if connected(T) else [tuple(range(T[0]))]


def trace_by_basis(T, f):
    chains = loop_basis(T)
    table = [[crossing_by_hand(T, a, b) for b in chains] for a in chains]
    trace = 0
    for at, a in enumerate(chains):
        moved = moved_chain(T, f, a)
        trace += solved(table, [crossing_by_hand(T, moved, b) for b in chains])[at]
    return trace


class Cells(unittest.TestCase):
    def test_numbers(self):
        for T in ROWS + GREAT:
            cycles = sum(len(cycles_of(p)) for p in T[1])
            self.assertEqual(cell_numbers(T), (T[0], T[0] * len(T[1]), cycles + T[0]))

    def test_faces(self):
        for T in ROWS + GREAT:
            edges, told = edges_of(T), face_chains(T)
            faces = faces_by_hand(T)
            self.assertEqual(told, tuple(tuple(face.count(edge) for edge in edges) for face in faces))
            for chain in told:
                self.assertIs(is_loop_chain(T, chain), True)
            for at in range(len(edges)):
                self.assertEqual(sum(chain[at] for chain in told), 2)
        self.assertEqual(face_chains((2, ((1, 0), (1, 0)))),
                         ((1, 1, 0, 0), (0, 0, 1, 1), (1, 0, 0, 1), (0, 1, 1, 0)))

    def test_boundaries(self):
        source = random.Random(62)
        for T in ROWS + GREAT:
            for _ in range(5):
                a = tuple(source.randint(-4, 4) for _ in edges_of(T))
                told = chain_boundary(T, a)
                self.assertEqual(told, boundary_by_hand(T, a))
                self.assertIs(is_loop_chain(T, a), not any(told))
        self.assertEqual(chain_boundary((0, ()), ()), ())
        self.assertEqual(chain_boundary((3, ()), ()), (0, 0, 0))
        self.assertIs(is_loop_chain((0, ()), ()), True)

    def test_rank(self):
        for T in ROWS + GREAT:
            c = len(system_parts(T))
            points, edges, faces = cell_numbers(T)
            self.assertEqual(loop_rank(T), edges - (points - c) - (faces - c))
            if is_connected(T):
                self.assertEqual(loop_rank(T), 2 * genus_of(T))
        for one, other in zip(ROWS, ROWS[1:]):
            if len(one[1]) == len(other[1]):
                self.assertEqual(loop_rank(system_beside(one, other)), loop_rank(one) + loop_rank(other))
        self.assertEqual([loop_rank(T) for T in EMPTY], [0] * len(EMPTY))


class Crossings(unittest.TestCase):
    def test_basis(self):
        for T in ROWS + GREAT:
            chains = loop_basis(T)
            self.assertIsInstance(chains, tuple)
            self.assertEqual(len(chains), loop_rank(T))
            self.assertTrue(all(is_loop_chain(T, a) for a in chains))
            table = crossing_table(T, chains)
            self.assertEqual(determinant(table), 1)
            self.assertEqual(table, tuple(tuple(crossing_by_hand(T, a, b) for b in chains) for a in chains))

    def test_numbers(self):
        source = random.Random(63)
        for T in ROWS + GREAT[1:2]:
            chains, faces = loop_basis(T), face_chains(T)
            makers = chains + faces
            rows = [summed(T, [source.randint(-3, 3) for _ in makers], makers) for _ in range(4)]
            for a, b in itertools.product(rows, repeat=2):
                self.assertEqual(crossing_number(T, a, b), crossing_by_hand(T, a, b))
                self.assertEqual(crossing_number(T, a, b), -crossing_number(T, b, a))
            self.assertEqual(crossing_number(T, added(rows[0], rows[1]), rows[2]),
                             crossing_number(T, rows[0], rows[2]) + crossing_number(T, rows[1], rows[2]))
            for face in faces[:4]:
                self.assertEqual([crossing_number(T, face, a) for a in rows], [0] * 4)
            self.assertEqual(crossing_table(T, tuple(rows)),
                             tuple(tuple(crossing_by_hand(T, a, b) for b in rows) for a in rows))
            self.assertEqual(crossing_table(T, ()), ())

    def test_filling(self):
        source = random.Random(64)
        for T in ROWS + GREAT:
            faces, chains = face_chains(T), loop_basis(T)
            for _ in range(4):
                filled = summed(T, [source.randint(-5, 5) for _ in faces], faces)
                told = filling_of(T, filled)
                self.assertIsInstance(told, tuple)
                self.assertEqual(len(told), len(faces))
                self.assertTrue(all(whole(n) for n in told))
                self.assertEqual(summed(T, told, faces), filled)
            for a in chains:
                self.assertIsNone(filling_of(T, a))
                self.assertIsNone(filling_of(T, added(filled, times(-2, a))))
            for _ in range(4):
                factors = [source.randint(-1, 1) for _ in chains]
                a = added(filled, summed(T, factors, chains))
                self.assertEqual(filling_of(T, a) is None, any(factors))
                self.assertEqual(any(crossing_by_hand(T, a, b) for b in chains), any(factors))
        self.assertEqual(filling_of((0, ()), ()), ())
        self.assertEqual(len(filling_of((3, ()), ())), 3)

    def test_great_integers(self):
        n = 10 ** 60
        faces = face_chains(S)
        a = summed(S, (n, -n, 3, n, 0, 1), faces)
        self.assertEqual(summed(S, filling_of(S, a), faces), a)
        loops = loop_basis(S)
        self.assertEqual(crossing_number(S, times(n, loops[0]), times(n, loops[1])),
                         n * n * crossing_number(S, loops[0], loops[1]))


class DeckMaps(unittest.TestCase):
    def test_moved(self):
        source = random.Random(65)
        for T in ROWS:
            for f in all_deck_maps(T):
                a = tuple(source.randint(-4, 4) for _ in edges_of(T))
                moved = moved_chain(T, f, a)
                for at, (i, x) in enumerate(edges_of(T)):
                    self.assertEqual(moved[i * T[0] + f[x]], a[at])
                told = boundary_by_hand(T, a)
                self.assertEqual(boundary_by_hand(T, moved), tuple(told[inv(f)[x]] for x in range(T[0])))

    def test_crossings_stay(self):
        for T in ROWS:
            chains = loop_basis(T)
            for f in all_deck_maps(T):
                moved = tuple(moved_chain(T, f, a) for a in chains)
                self.assertEqual(crossing_table(T, moved), crossing_table(T, chains))

    def test_petals_and_traces(self):
        some = set()
        even = tuple((x + 6) % 12 for x in range(12))
        more = [(6, (cycle_row(6),) * 6), (4, ((1, 0, 3, 2), (2, 3, 0, 1), (3, 2, 1, 0))), system_beside(S, S),
                closed_up((12, (cycle_row(12), even))), (2, ((1, 0),) * 6)]
        for T in ROWS + more:
            maps = all_deck_maps(T)
            if T == system_beside(S, S):
                maps = [(3, 4, 5, 0, 1, 2), (4, 5, 3, 0, 1, 2), (1, 2, 0, 3, 4, 5), (1, 2, 0, 5, 3, 4), tuple(range(6))]
            for f in maps:
                petals = sum({f[x] for x in cycle} == set(cycle) for p in T[1] for cycle in cycles_of(p))
                self.assertEqual(fixed_petals(T, f), petals)
                trace = deck_trace(T, f)
                self.assertEqual(trace, trace_by_basis(T, f))
                some.add(trace)
                if f == tuple(range(T[0])):
                    self.assertEqual(trace, loop_rank(T))
                elif is_connected(T):
                    self.assertEqual(trace, 2 - petals)
        self.assertGreater(len(some), 5)

    def test_great(self):
        for T in GREAT:
            self.assertEqual(deck_trace(T, tuple(range(T[0]))), loop_rank(T))
        T = (24, (cycle_row(24), inv(cycle_row(24)), cycle_row(24), inv(cycle_row(24)), tuple(range(24))))
        for f in deck_maps(T):
            self.assertEqual(fixed_petals(T, f), 4 if f[0] else 28)
            self.assertEqual(deck_trace(T, f), -2 if f[0] else loop_rank(T))


class Wrong(unittest.TestCase):
    def test_above(self):
        for T in ABOVE:
            self.assertIs(is_closed(T), True)
            chain, unit = (0,) * (T[0] * len(T[1])), tuple(range(T[0]))
            odd = (1,) + chain[1:]
            for function in (cell_numbers, face_chains, loop_rank, loop_basis):
                refused(self, "large", function, T)
            for a in (chain, odd):
                refused(self, "large", chain_boundary, T, a)
                refused(self, "large", is_loop_chain, T, a)
                refused(self, "large", crossing_number, T, a, chain)
                refused(self, "large", crossing_number, T, chain, a)
                refused(self, "large", crossing_table, T, (chain, a))
                refused(self, "large", filling_of, T, a)
                refused(self, "large", moved_chain, T, unit, a)
            refused(self, "large", crossing_table, T, ())
            refused(self, "large", deck_trace, T, unit)
            refused(self, "large", fixed_petals, T, unit)
            short = chain[1:]
            for a in (short, chain + (0,), list(chain), (True,) + short, ("0",) + short, None):
                malformed(self, chain_boundary, (T, a))
                malformed(self, is_loop_chain, (T, a))
                malformed(self, crossing_number, (T, a, chain), (T, chain, a))
                malformed(self, crossing_table, (T, (chain, a)), (T, [chain]))
                malformed(self, filling_of, (T, a))
                malformed(self, moved_chain, (T, unit, a), (T, unit[1:], chain), (T, None, chain))
            malformed(self, deck_trace, (T, unit[1:]), (T, list(unit)))
            malformed(self, fixed_petals, (T, unit[1:]), (T, (True,) + unit[1:]))

    def test_no_loop_chains(self):
        odd, none = (1, 0, 0, 0, 0, 0, 0, 0, 0), (0,) * 9
        malformed(self, crossing_number, (S, odd, none), (S, none, odd))
        malformed(self, crossing_table, (S, (none, odd)), (S, (odd,)))
        malformed(self, filling_of, (S, odd))
        self.assertIs(is_loop_chain(S, odd), False)
        self.assertEqual(moved_chain(S, (1, 2, 0), odd), (0, 1, 0, 0, 0, 0, 0, 0, 0))

    def test_not_closed(self):
        for T in ((2, ((1, 0),)), (3, ((1, 0, 2), (0, 2, 1))), (24, (cycle_row(24),) * 12 + (cycle_row(24),)),
                  (24, (cycle_row(24),) * 11)):
            for function in (cell_numbers, face_chains, loop_rank, loop_basis):
                malformed(self, function, (T,))
            a = (0,) * (T[0] * len(T[1]))
            malformed(self, chain_boundary, (T, a))
            malformed(self, crossing_table, (T, ()))
            malformed(self, fixed_petals, (T, tuple(range(T[0]))))

    def test_malformed(self):
        def closed(value):
            return system(value) and is_closed(value)

        def chain(value):
            return isinstance(value, tuple) and len(value) == 4 and all(whole(n) for n in value)
        T, a = (2, ((1, 0), (1, 0))), (0, 0, 0, 0)

        def four(value):
            return closed(value) and value[0] * len(value[1]) == 4
        for function in (cell_numbers, face_chains, loop_rank, loop_basis):
            malformed_in_each_place(self, function, (T,), [closed])
        for function in (chain_boundary, is_loop_chain, filling_of):
            malformed_in_each_place(self, function, (T, a), [four, chain])
        malformed_in_each_place(self, crossing_number, (T, a, a), [four, chain, chain])
        malformed_in_each_place(self, crossing_table, (T, (a,)), [four, lambda v: v == ()])

        def deck(value):
            return permutation(value) and len(value) == 2
        malformed_in_each_place(self, moved_chain, (T, (1, 0), a), [four, deck, chain])
        for function in (deck_trace, fixed_petals):
            malformed_in_each_place(self, function, (T, (1, 0)), [lambda v: closed(v) and v[0] == 2, deck])
            malformed(self, function, (S, (1, 0, 2)), (S, (0, 1)), (S, [1, 2, 0]), (S, (0, 2, 1)))
        malformed(self, moved_chain, (S, (1, 0, 2), (0,) * 9), (S, (1, 2, 0), (0,) * 8), (S, (1, 2, 0), [0] * 9))


if __name__ == "__main__":
    unittest.main()
