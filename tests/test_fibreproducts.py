"""Points 7.1 to 7.8: fibre products, closures, equal numbers of fixed sheets."""

import itertools
import random
import unittest
from fractions import Fraction
from math import gcd, lcm

from branchsheets.decks import deck_maps, is_galois, is_system_map, system_maps
from branchsheets.fibreproducts import closure_genus, closure_system, coset_system, has_equal_fixed
from branchsheets.fibreproducts import least_unlike_fixed, part_datum, part_genus, part_system, part_with
from branchsheets.fibreproducts import product_datum, product_parts, subdegrees
from branchsheets.permgroups import group_members, group_order, orbits_fixing, transitive_degree
from branchsheets.permutations import cycle_type, order_of
from branchsheets.systems import genus_of, is_closed, is_connected, is_cover, least_system, renumbered_system
from branchsheets.wordspans import _is_new
from helpers import ALL_24, EVEN_24, closed_up, connected, cycle_row, group_list, inv, is_sheet_below
from helpers import malformed, malformed_in_each_place, mul, random_permutation, random_systems, refused, swap_row
from helpers import system, walk, words_to

S = (3, ((1, 0, 2), (0, 2, 1), (1, 2, 0)))
T = (2, ((1, 0), (1, 0), (0, 1)))
POINTS = (7, ((1, 2, 3, 4, 5, 6, 0), (0, 1, 4, 3, 2, 6, 5)))
LINES = (7, ((1, 2, 3, 4, 5, 6, 0), (0, 1, 3, 2, 6, 5, 4)))
ANY = random_systems(51, 30, 5, 2) + [(0, ()), (0, ((),)), (2, ()), (1, ()), (1, ((0,), (0,)))]
JOINED = random_systems(52, 30, 5, 2, connected) + [(1, ()), S, T, POINTS, LINES]
CLOSED = [closed_up(R) for R in random_systems(53, 40, 5, 2)]
PAIRS = [(A, B) for A, B in itertools.product(ANY + JOINED + CLOSED, repeat=2) if len(A[1]) == len(B[1])]


def pair_parts(A, B):
    met, parts = set(), []
    for start in itertools.product(range(A[0]), range(B[0])):
        if start not in met:
            part, waiting = {start}, [start]
            while waiting:
                x, y = waiting.pop()
                for p, q in zip(A[1], B[1]):
                    for ahead in ((p[x], q[y]), (p.index(x), q.index(y))):
                        if ahead not in part:
                            part.add(ahead)
                            waiting.append(ahead)
            met |= part
            parts.append(tuple(sorted(part)))
    return tuple(parts)


def type_on(pairs, p, q):
    pairs = sorted(pairs)
    return cycle_type(tuple(pairs.index((p[x], q[y])) for x, y in pairs))


def rank_of(rows):
    """The rank over the fractions."""
    rows, rank = [[Fraction(item) for item in row] for row in rows], 0
    for at in range(len(rows[0]) if rows else 0):
        pivot = next((k for k in range(rank, len(rows)) if rows[k][at]), None)
        if pivot is not None:
            rows[rank], rows[pivot] = rows[pivot], rows[rank]
            for k in range(rank + 1, len(rows)):
                factor = rows[k][at] / rows[rank][at]
                rows[k] = [one - factor * other for one, other in zip(rows[k], rows[rank])]
            rank += 1
    return rank


def fixed(p):
    return sum(x == y for x, y in enumerate(p))


class Products(unittest.TestCase):
    def test_parts(self):
        for A, B in PAIRS:
            self.assertEqual(product_parts(A, B), pair_parts(A, B))

    def test_number_of_parts_is_a_mean(self):
        for A, B in PAIRS[::7]:
            perms = [p + tuple(A[0] + y for y in q) for p, q in zip(A[1], B[1])]
            members = group_list(A[0] + B[0], perms)
            total = sum(fixed(g[:A[0]]) * sum(g[x] == x for x in range(A[0], A[0] + B[0])) for g in members)
            self.assertEqual(total, len(members) * len(product_parts(A, B)))

    def test_datum(self):
        for A, B in PAIRS:
            pairs = list(itertools.product(range(A[0]), range(B[0])))
            told = product_datum(A, B)
            self.assertEqual(told, tuple(type_on(pairs, p, q) for p, q in zip(A[1], B[1])))
            for p, q, mu in zip(A[1], B[1], told):
                rows = [lcm(a, b) for a in cycle_type(p) for b in cycle_type(q) for _ in range(gcd(a, b))]
                self.assertEqual(mu, tuple(sorted(rows, reverse=True)))

    def test_one_part(self):
        for A, B in PAIRS[::3]:
            for part in pair_parts(A, B):
                for x, y in part[:3]:
                    self.assertEqual(part_with(A, B, x, y), part)
                    types = tuple(type_on(part, p, q) for p, q in zip(A[1], B[1]))
                    self.assertEqual(part_datum(A, B, x, y), types)
                    if len(part) > 24:
                        refused(self, "large", part_system, A, B, x, y)
                        continue
                    told = part_system(A, B, x, y)
                    perms = [tuple(part.index((p[a], q[b])) for a, b in part) for p, q in zip(A[1], B[1])]
                    self.assertEqual(told, (len(part), tuple(perms)))
                    self.assertIs(is_connected(told), True)
                    if is_closed(A) and is_closed(B):
                        loss = sum(len(part) - len(mu) for mu in types)
                        self.assertEqual(2 - 2 * part_genus(A, B, x, y), 2 * len(part) - loss)
                        self.assertEqual(part_genus(A, B, x, y), genus_of(told))
                    else:
                        refused(self, "closed", part_genus, A, B, x, y)

    def test_great(self):
        A, B = closed_up((24, ALL_24[1])), closed_up((23, (cycle_row(23), swap_row(23, 0, 1))))
        part = part_with(A, B, 5, 7)
        self.assertEqual(part, pair_parts(A, B)[0])
        self.assertEqual(len(part), 24 * 23)
        types = part_datum(A, B, 5, 7)
        self.assertEqual(types, product_datum(A, B))
        self.assertEqual(2 - 2 * part_genus(A, B, 5, 7), 2 * 552 - sum(552 - len(mu) for mu in types))
        self.assertEqual([len(part) for part in product_parts(A, A)], [24, 24 * 23])
        self.assertEqual(part_system(A, A, 3, 3), A)
        refused(self, "large", part_system, A, A, 3, 4)
        refused(self, "large", part_system, A, B, 0, 0)
        five = (5, ((cycle_row(5)),))
        self.assertEqual(part_system((24, (cycle_row(24),)), (24, (cycle_row(24),)), 3, 4)[0], 24)
        refused(self, "large", part_system, five, (6, (cycle_row(6),)), 0, 0)
        self.assertEqual(part_system((4, (cycle_row(4),)), (6, (cycle_row(6),)), 0, 0)[0], 12)
        self.assertEqual(part_system((3, (cycle_row(3),)), (8, (cycle_row(8),)), 0, 0)[0], 24)
        twelve = (24, (cycle_row(24),) * 12)
        self.assertEqual(len(product_parts(twelve, twelve)), 24)

    def test_covers_of_both(self):
        # A system over S and over T is over one part, by the pairs of its images.
        for R in ((6, ((1, 0, 3, 2, 5, 4), (3, 2, 5, 4, 1, 0), (0, 1, 2, 3, 4, 5))), closure_system(S)):
            for f in system_maps(R, S):
                for g in system_maps(R, T):
                    part = part_with(S, T, f[0], g[0])
                    told = part_system(S, T, f[0], g[0])
                    h = tuple(part.index(pair) for pair in zip(f, g))
                    self.assertIs(is_system_map(R, told, h), True)

    def test_no_sheets(self):
        none = (0, ((), ()))
        self.assertEqual(product_parts(none, (2, ((1, 0), (0, 1)))), ())
        self.assertEqual(product_datum(none, (2, ((1, 0), (0, 1)))), ((), ()))
        self.assertEqual(product_parts((2, ()), (2, ())), (((0, 0),), ((0, 1),), ((1, 0),), ((1, 1),)))
        malformed(self, part_with, (none, none, 0, 0), (none, (1, ((0,), (0,))), 0, 0))

    def test_wrong(self):
        def three(value):
            return system(value) and len(value[1]) == 3
        for function in (product_parts, product_datum):
            malformed_in_each_place(self, function, (S, T), [three, three])
            malformed(self, function, (S, POINTS), ((1, ()), T))
        for function in (part_with, part_datum, part_genus, part_system):
            malformed_in_each_place(self, function, (S, T, 0, 1), [three, three, is_sheet_below(3), is_sheet_below(2)])
            malformed(self, function, (S, POINTS, 0, 0), (S, T, 3, 0), (S, T, 0, 2), (S, T, -1, 0), (S, T, True, 0),
                      (S, T, 0, False), (ALL_24, ALL_24, 0, 24), (ALL_24, ALL_24, None, 0))


class Connected(unittest.TestCase):
    def test_subdegrees(self):
        for R in JOINED:
            self.assertEqual(subdegrees(R), tuple(sorted(len(orbit) for orbit in orbits_fixing(R, (0,)))))
            self.assertEqual(sum(subdegrees(R)), R[0])
            self.assertEqual(subdegrees(R).count(1), len(deck_maps(R)))
            if R[0] > 1:
                self.assertEqual(len(subdegrees(R)) == 2, transitive_degree(R) >= 2)
        self.assertEqual(subdegrees(ALL_24), (1, 23))
        # The orbits are 0, then 1 and 2, then 3.
        self.assertEqual(subdegrees((4, ((1, 3, 0, 2), (0, 2, 1, 3)))), (1, 1, 2))
        self.assertEqual(subdegrees((24, (cycle_row(24),) * 12)), (1,) * 24)

    def test_refused(self):
        for R in ((0, ()), (2, ()), (4, ((1, 0, 3, 2),)), (0, ((),)), (24, ())):
            refused(self, "connected", subdegrees, R)
            refused(self, "connected", closure_genus, R)
            refused(self, "connected", closure_system, R)
        # Connectedness is asked ahead of closedness, and ahead of sizes.
        apart = (24, (cycle_row(23) + (23,), swap_row(24, 0, 1)))
        refused(self, "connected", closure_genus, apart)
        refused(self, "connected", closure_system, apart)
        for R in JOINED:
            if not is_closed(R):
                refused(self, "closed", closure_genus, R)
        refused(self, "closed", closure_genus, ALL_24)
        refused(self, "large", closure_system, ALL_24)
        refused(self, "large", closure_system, (5, ((1, 2, 0, 3, 4), (0, 1, 3, 4, 2))))

    def test_closures(self):
        for R in JOINED + [closed_up(R) for R in JOINED] + [(4, (cycle_row(4), swap_row(4, 0, 1)))]:
            members = sorted(group_list(R[0], R[1]))
            if len(members) > 24:
                refused(self, "large", closure_system, R)
            else:
                told = closure_system(R)
                self.assertEqual(told[0], len(members))
                for p, q in zip(R[1], told[1]):
                    self.assertEqual([members[at] for at in q], [mul(g, p) for g in members])
                self.assertIs(is_galois(told), True)
                for x in range(R[0]):
                    self.assertIs(is_system_map(told, R, tuple(g[x] for g in members)), True)
                if is_closed(R):
                    self.assertIs(is_cover(told), True)
                    self.assertEqual(closure_genus(R), genus_of(told))
            if is_closed(R):
                n = len(members)
                loss = sum(n - n // order_of(p) for p in R[1])
                self.assertEqual(2 - 2 * closure_genus(R), 2 * n - loss)

    def test_great_closures(self):
        for R in (closed_up(ALL_24), closed_up(EVEN_24)):
            n = group_order(R)
            self.assertEqual(2 - 2 * closure_genus(R), 2 * n - sum(n - n // order_of(p) for p in R[1]))
            refused(self, "large", closure_system, R)
        self.assertEqual(closure_system((24, (cycle_row(24),)))[0], 24)
        self.assertEqual(closure_system((1, ())), (1, ()))
        self.assertEqual(closure_genus((1, ())), 0)

    def test_wrong(self):
        for function in (subdegrees, closure_genus, closure_system):
            good = (1, ((0,),))
            malformed_in_each_place(self, function, (good,), [system])
        malformed(self, closure_system, (list(ALL_24),), ((24, ALL_24[1] + ((0,),)),))


class Cosets(unittest.TestCase):
    def told_by_hand(self, R, U):
        members = group_list(R[0], U[1])
        leasts = {g: min(mul(u, g) for u in members) for g in group_list(R[0], R[1])}
        order = sorted(set(leasts.values()))
        return (len(order), tuple(tuple(order.index(leasts[mul(g, p)]) for g in order) for p in R[1]))

    def test_by_hand(self):
        source = random.Random(54)
        some = set()
        for R in ANY + JOINED:
            members = sorted(group_list(R[0], R[1]))
            for many in (0, 1, 1, 2, 3):
                U = (R[0], tuple(source.choice(members) for _ in range(many)))
                cosets = len(members) // len(group_list(R[0], U[1]))
                if cosets > 24:
                    refused(self, "large", coset_system, R, U)
                else:
                    told = coset_system(R, U)
                    self.assertEqual(told, self.told_by_hand(R, U))
                    self.assertEqual(told[0], cosets)
                    self.assertIs(is_connected(told), True)
                    some.add(cosets)
        self.assertGreater(len(some), 6)

    def test_members_that_leave_zero(self):
        for R in JOINED:
            leaving = [g for g in group_list(R[0], R[1]) if g[0] == 0]
            U = (R[0], tuple(sorted(leaving)[-12:]))
            if group_order(U) == len(leaving):
                self.assertEqual(least_system(coset_system(R, U)), least_system(R))

    def test_great(self):
        leaving = (24, tuple(swap_row(24, i, i + 1) for i in range(1, 12)) + ((0,) + tuple(range(2, 24)) + (1,),))
        told = coset_system(ALL_24, leaving)
        self.assertEqual(told[0], 24)
        self.assertEqual(least_system(told), least_system(ALL_24))
        self.assertEqual(coset_system(ALL_24, EVEN_24), (2, ((1, 0), (1, 0))))
        self.assertEqual(coset_system(ALL_24, ALL_24), (1, ((0,), (0,))))
        refused(self, "large", coset_system, ALL_24, (24, ()))
        refused(self, "large", coset_system, ALL_24, (24, (cycle_row(24),)))
        self.assertEqual(coset_system((24, (cycle_row(24),)), (24, ())), (24, (cycle_row(24),)))

    def test_refused(self):
        refused(self, "within", coset_system, EVEN_24, ALL_24)
        refused(self, "within", coset_system, EVEN_24, (24, (swap_row(24, 0, 1),)))
        refused(self, "within", coset_system, (3, ()), (3, ((1, 0, 2),)))
        self.assertEqual(coset_system((3, ()), (3, ())), (1, ()))
        self.assertEqual(coset_system((0, ((),)), (0, ())), (1, ((0,),)))
        self.assertEqual(coset_system((4, ((1, 0, 2, 3),)), (4, ())), (2, ((1, 0),)))

    def test_wrong(self):
        malformed_in_each_place(self, coset_system, (S, (3, ())), [lambda v: system(v) and v[0] == 3] * 2)
        malformed(self, coset_system, (S, T), (ALL_24, (23, ())), (ALL_24, None), (None, ALL_24), (S, [3, ()]))


class Fixed(unittest.TestCase):
    def unlike_by_trying(self, A, B, longest):
        for w in words_to(len(A[1]), longest):
            one, other = [tuple(walk(R, x, w) for x in range(R[0])) for R in (A, B)]
            if fixed(one) != fixed(other):
                return w
        return None

    def unlike_by_members(self, A, B):
        """The first member, in the order of words, that leaves unlike numbers."""
        start = (tuple(range(A[0])), tuple(range(B[0])))
        met, waiting = {start}, [((), start)]
        for w, (p, q) in waiting:
            if fixed(p) != fixed(q):
                return w
            for i in [s * j for j in range(1, len(A[1]) + 1) for s in (1, -1)]:
                one, other = A[1][abs(i) - 1], B[1][abs(i) - 1]
                ahead = (mul(p, one if i > 0 else inv(one)), mul(q, other if i > 0 else inv(other)))
                if ahead not in met:
                    met.add(ahead)
                    waiting.append((w + (i,), ahead))
        return None

    def equal_by_lists(self, A, B):
        d = A[0]
        perms = [p + tuple(d + y for y in q) for p, q in zip(A[1], B[1])]
        return all(fixed(g[:d]) == sum(g[x] == x for x in range(d, len(g))) for g in group_list(d + B[0], perms))

    def test_by_trying(self):
        source = random.Random(55)
        more = []
        for _ in range(120):
            R = source.choice([R for R in ANY + JOINED if R[0] > 2 and R[0] < 6 and len(R[1]) == 2])
            q = renumbered_system(R, random_permutation(source, R[0]))[1][1]
            more.append((R, (R[0], (R[1][0], q))))
        lengths = set()
        for A, B in PAIRS[::5] + more:
            w = least_unlike_fixed(A, B)
            equal = self.equal_by_lists(A, B)
            self.assertIs(has_equal_fixed(A, B), equal)
            self.assertEqual(w is None, equal)
            if w is not None:
                lengths.add(len(w))
                self.assertLess(len(w), max(1, A[0] ** 2 + B[0] ** 2))
                self.assertEqual(self.unlike_by_members(A, B), w)
                if len(w) < 4:
                    self.assertEqual(self.unlike_by_trying(A, B, len(w)), w)
        self.assertTrue({0, 1, 2} <= lengths, lengths)

    def test_long_words(self):
        rows = [
            ((5, ((3, 2, 0, 4, 1), (3, 4, 2, 1, 0))), (5, ((3, 2, 0, 4, 1), (1, 4, 0, 3, 2))), (1, 1, 2, 1, -2)),
            ((5, ((3, 2, 1, 0, 4), (3, 1, 0, 4, 2))), (5, ((3, 4, 2, 0, 1), (3, 2, 0, 1, 4))), (1, 2, 1, 2, 2, 1, -2)),
            ((7, ((4, 5, 3, 2, 0, 1, 6), (3, 1, 5, 4, 0, 6, 2))), (7, ((6, 4, 3, 2, 1, 5, 0), (5, 4, 2, 0, 6, 3, 1))),
             (1, 2, 1, 2, 1, -2, 1, 2, 1, -2, 1, -2)),
            ((6, ((1, 3, 5, 0, 2, 4), (4, 5, 1, 3, 0, 2), (0, 1, 2, 3, 4, 5))),
             (6, ((1, 2, 0, 5, 3, 4), (3, 1, 4, 0, 5, 2), (0, 1, 2, 3, 4, 5))), (1, 2, -1, 2, 2))]
        for A, B, w in rows:
            self.assertEqual(least_unlike_fixed(A, B), w)
            self.assertEqual(least_unlike_fixed(B, A), w)
            self.assertEqual(self.unlike_by_members(A, B), w)
            self.assertIs(has_equal_fixed(A, B), False)

    def test_long(self):
        # The powers of one permutation with the cycles 5, 3 differ from those of others at multiples alone.
        p = (1, 2, 3, 4, 0, 6, 7, 5)
        for q, w in (((1, 2, 3, 4, 0, 6, 5, 7), (1,)), ((1, 2, 3, 0, 5, 6, 7, 4), (1, 1, 1)), (cycle_row(8), (1,) * 3)):
            self.assertEqual(least_unlike_fixed((8, (p,)), (8, (q,))), w)
        self.assertEqual(least_unlike_fixed((6, ((1, 0, 3, 2, 5, 4),)), (6, ((1, 2, 0, 4, 5, 3),))), (1, 1))

    def test_sums_of_earlier_rows(self):
        # With items 0 and 1 all determinants are below the prime, so the rank is that of fractions.
        source = random.Random(57)
        for _ in range(200):
            n = source.randint(1, 5)
            rows = [[source.randint(0, 1) for _ in range(n)] for _ in range(7)]
            basis = []
            kept = [row for row in rows if _is_new(basis, list(row))]
            self.assertEqual(len(kept), rank_of(rows))
            self.assertEqual(len(kept), len(basis))
            self.assertEqual(rank_of(kept), len(kept))

    def test_unlike_sheets(self):
        self.assertEqual(least_unlike_fixed(S, T), ())
        self.assertEqual(least_unlike_fixed((0, ()), (1, ())), ())
        self.assertIsNone(least_unlike_fixed((0, ()), (0, ())))
        self.assertIs(has_equal_fixed((0, ((),)), (0, ((),))), True)
        self.assertIs(has_equal_fixed((0, ()), (1, ())), False)
        self.assertIs(has_equal_fixed((1, ()), (1, ())), True)
        self.assertIs(has_equal_fixed((8, ()), (8, ())), True)

    def test_not_alike_and_equal(self):
        self.assertIs(has_equal_fixed(POINTS, LINES), True)
        self.assertIsNone(least_unlike_fixed(POINTS, LINES))
        self.assertNotEqual(least_system(POINTS), least_system(LINES))
        for R in JOINED:
            if len(R[1]) == 2 and R[0] < 8:
                self.assertEqual(len(product_parts(R, POINTS)), len(product_parts(R, LINES)))

    def test_great(self):
        source = random.Random(56)
        perms = [random_permutation(source, 8) for _ in range(12)]
        A = (8, tuple(perms))
        for _ in range(10):
            f = random_permutation(source, 8)
            self.assertIs(has_equal_fixed(A, renumbered_system(A, f)), True)
            self.assertIsNone(least_unlike_fixed(A, renumbered_system(A, f)))
            others = tuple(mul(mul(inv(g), p), g) for p, g in zip(perms, [random_permutation(source, 8) for _ in perms]))
            w = least_unlike_fixed(A, (8, others))
            if w is not None:
                self.assertEqual(self.unlike_by_trying(A, (8, others), min(len(w), 2)), w if len(w) < 3 else None)

    def test_refused(self):
        nine, eight = (9, (cycle_row(9),)), (8, (cycle_row(8),))
        for function in (has_equal_fixed, least_unlike_fixed):
            refused(self, "large", function, nine, eight)
            refused(self, "large", function, eight, nine)
            refused(self, "large", function, nine, nine)
            refused(self, "large", function, ALL_24, ALL_24)
            function(eight, eight)
            malformed(self, function, (nine, (9, ())), (nine, None), ([9], nine), (ALL_24, S))

    def test_wrong(self):
        for function in (has_equal_fixed, least_unlike_fixed):
            malformed_in_each_place(self, function, (S, T), [lambda v: system(v) and len(v[1]) == 3] * 2)
        self.assertEqual(len(group_members(S)), 6)


if __name__ == "__main__":
    unittest.main()
