"""Points 5.1 to 5.8: monodromy groups."""

import itertools
import random
import unittest
from math import factorial

from branchsheets.permgroups import base_orbits, conjugacy_sizes, derived_orders, group_members, group_order
from branchsheets.permgroups import is_giant, is_group_within, is_member, is_solvable, least_ladder, least_of_coset
from branchsheets.permgroups import least_word_to, orbits_fixing, same_group, sifted_through, told_base
from branchsheets.permgroups import transitive_degree, type_numbers
from branchsheets.permutations import cycle_type, sign_of
from branchsheets.systems import is_word
from helpers import ALL_24, EVEN_24, all_permutations, cycle_row, group_list, inv, malformed
from helpers import malformed_in_each_place, mul, orbit_of, permutation, random_permutation, random_systems, refused
from helpers import swap_row, system, walk, whole, words_to

AFFINE = (5, ((1, 2, 3, 4, 0), (0, 2, 4, 1, 3)))
PLANE = (7, ((1, 2, 3, 4, 5, 6, 0), (0, 1, 4, 3, 2, 6, 5)))
SMALL = random_systems(31, 45, 5, 2) + [
    (0, ()), (0, ((),)), (1, ()), (1, ((0,),)), (3, ()), (5, ((0, 1, 2, 3, 4),)), AFFINE, PLANE,
    (4, ((1, 0, 3, 2), (2, 3, 0, 1))), (4, ((1, 2, 0, 3), (0, 2, 3, 1))), (6, ((0, 2, 1, 3, 4, 5), (0, 1, 2, 4, 5, 3))),
    (5, ((1, 2, 0, 3, 4), (0, 1, 3, 4, 2))), (6, ((1, 0, 3, 2, 5, 4), (2, 3, 4, 5, 0, 1)))]


def lists_of(S):
    return sorted(group_list(S[0], S[1]))


def ladder_by_lists(S):
    members, levels = lists_of(S), []
    while len(members) > 1:
        b = min(x for g in members for x in range(S[0]) if g[x] != x)
        steps = []
        for y in sorted({g[b] for g in members}):
            steps.append((y, min(g for g in members if g[b] == y)))
        levels.append((b, tuple(steps)))
        members = [g for g in members if g[b] == b]
    return tuple(levels)


def beside(*rows):
    """The permutations of several rows, each on sheets of its own, the first sheets first."""
    d = sum(many for many, _ in rows)
    perms, start = [], 0
    for many, row in rows:
        for p in row:
            perms.append(tuple(range(start)) + tuple(start + y for y in p) + tuple(range(start + many, d)))
        start += many
    return (d, tuple(perms))


ALL_4, ALL_5 = (4, [cycle_row(4), swap_row(4, 0, 1)]), (5, [cycle_row(5), swap_row(5, 0, 1)])
SQUARE, THREE, PAIR = (4, [cycle_row(4), swap_row(4, 0, 2)]), (3, [cycle_row(3)]), (2, [(1, 0)])
FIVE, SEVEN = (5, [cycle_row(5)]), (7, [cycle_row(7)])
ALL_7, ALL_8 = (7, (cycle_row(7), swap_row(7, 0, 1))), (8, (cycle_row(8), swap_row(8, 0, 1)))
# Orders just above the bounds: 5103 = 3 ** 6 * 7, 5120, 40960.
ABOVE_5040 = [beside((9, [(3, 4, 5, 6, 7, 8, 0, 1, 2), (1, 2, 0, 3, 4, 5, 6, 7, 8)]),
                     THREE, THREE, SEVEN), beside(SQUARE, SQUARE, SQUARE, PAIR, FIVE)]
ABOVE_40320 = [beside(SQUARE, SQUARE, SQUARE, SQUARE, PAIR, FIVE)]


def mathieu():
    """The group of Mathieu of 24 sheets: x + 1, -1 / x, and a cube, on the numbers modulo 23 and one more."""
    squares = {x * x % 23 for x in range(1, 23)}
    ninth = pow(9, -1, 23)
    cube = tuple(0 if x == 0 else x ** 3 * (ninth if x in squares else 9) % 23 for x in range(23)) + (23,)
    turn = tuple(23 if x == 0 else -pow(x, -1, 23) % 23 for x in range(23)) + (0,)
    return (24, (tuple((x + 1) % 23 for x in range(23)) + (23,), turn, cube))


MATHIEU = mathieu()
WREATH = (24, (cycle_row(24), swap_row(24, 0, 12)))
CUT = (24, tuple(swap_row(24, i, i + 1) for i in range(0, 23, 2)))
GREAT = [ALL_24, EVEN_24, MATHIEU, WREATH, CUT, (24, tuple(random_permutation(random.Random(i), 24) for i in range(12)))]


class Ladders(unittest.TestCase):
    def test_small(self):
        for S in SMALL:
            members, ladder = lists_of(S), ladder_by_lists(S)
            self.assertEqual(group_order(S), len(members))
            self.assertEqual(least_ladder(S), ladder)
            self.assertEqual(told_base(S), tuple(b for b, _ in ladder))
            self.assertEqual(base_orbits(S), tuple(tuple(y for y, _ in steps) for _, steps in ladder))
            self.assertEqual(group_members(S), tuple(members))

    def test_no_permutations(self):
        for d in (0, 1, 2, 24):
            for S in ((d, ()), (d, (tuple(range(d)),) * 12)):
                self.assertEqual((group_order(S), told_base(S), base_orbits(S), least_ladder(S)), (1, (), (), ()))
                self.assertEqual(group_members(S), (tuple(range(d)),))
                self.assertEqual((derived_orders(S), is_solvable(S), conjugacy_sizes(S)), ((1,), True, (1,)))
                self.assertEqual(type_numbers(S), (((1,) * d, 1),))
                self.assertEqual(orbits_fixing(S, ()), tuple((x,) for x in range(d)))
                self.assertEqual(transitive_degree(S), 1 if d == 1 else 0)
                self.assertIs(is_giant(S), d <= 2)
                self.assertEqual(sifted_through(S, tuple(range(d))), (0, tuple(range(d))))
                self.assertEqual(least_word_to(S, tuple(range(d))), ())

    def test_great_orders(self):
        self.assertEqual(group_order(ALL_24), factorial(24))
        self.assertEqual(group_order(EVEN_24), factorial(24) // 2)
        self.assertEqual(group_order(MATHIEU), 244823040)
        self.assertEqual(group_order(WREATH), 2 ** 12 * 12)
        self.assertEqual(group_order(CUT), 2 ** 12)
        self.assertEqual(told_base(ALL_24), tuple(range(23)))
        self.assertEqual(told_base(EVEN_24), tuple(range(22)))
        self.assertEqual([len(orbit) for orbit in base_orbits(MATHIEU)], [24, 23, 22, 21, 20, 16, 3])
        self.assertEqual(told_base(CUT), tuple(range(0, 24, 2)))
        twelve = tuple(swap_row(24, 2 * i, 23) for i in range(12))
        self.assertEqual(group_order((24, twelve)), factorial(13))

    def test_great_ladders(self):
        self.assertEqual(least_ladder(ALL_24)[3][1][2], (5, (0, 1, 2, 5, 3, 4) + tuple(range(6, 24))))
        for S in GREAT:
            ladder = least_ladder(S)
            product = 1
            for level, (b, steps) in enumerate(ladder):
                product *= len(steps)
                self.assertEqual(steps[0], (b, tuple(range(24))))
                self.assertEqual([y for y, _ in steps], sorted(y for y, _ in steps))
                for y, u in steps:
                    self.assertTrue(u[b] == y and u[:b] == tuple(range(b)))
                    # No member of a later level leads to a lesser permutation.
                    for c, later in ladder[level + 1:]:
                        self.assertEqual(u[c], min(u[z] for z, _ in later))
                    self.assertIs(is_member(S, u), True)
            self.assertEqual(product, group_order(S))


class Sifting(unittest.TestCase):
    def test_small(self):
        for S in SMALL:
            if S[0] > 5:
                continue
            ladder, members = ladder_by_lists(S), set(lists_of(S))
            for p in all_permutations(S[0]):
                passed, q = 0, p
                for b, steps in ladder:
                    told = dict(steps)
                    if q[b] not in told:
                        break
                    passed, q = passed + 1, mul(q, inv(told[q[b]]))
                self.assertEqual(sifted_through(S, p), (passed, q))
                self.assertIs(is_member(S, p), p in members)
                self.assertEqual(least_of_coset(S, p), min(mul(g, p) for g in members))

    def test_great(self):
        source = random.Random(32)
        for S in GREAT:
            ladder = least_ladder(S)
            for _ in range(6):
                g = tuple(range(24))
                for _ in range(9):
                    g = mul(g, source.choice(S[1]))
                self.assertIs(is_member(S, g), True)
                self.assertEqual(sifted_through(S, g), (len(ladder), tuple(range(24))))
                self.assertEqual(least_of_coset(S, g), tuple(range(24)))
                p = random_permutation(source, 24)
                least = least_of_coset(S, p)
                self.assertIs(is_member(S, mul(least, inv(p))), True)
                self.assertEqual(least_of_coset(S, mul(g, p)), least)
                self.assertLessEqual(least, min(p, mul(g, p)))
                passed, q = sifted_through(S, p)
                self.assertIs(is_member(S, p), passed == len(ladder) and q == tuple(range(24)))
        self.assertIs(is_member(ALL_24, swap_row(24, 3, 20)), True)
        self.assertIs(is_member(EVEN_24, swap_row(24, 3, 20)), False)
        self.assertEqual(least_of_coset(EVEN_24, cycle_row(24)), swap_row(24, 22, 23))
        self.assertEqual(sifted_through(EVEN_24, swap_row(24, 0, 1)), (22, swap_row(24, 22, 23)))

    def test_within(self):
        for one, other in itertools.product(SMALL, repeat=2):
            if one[0] != other[0]:
                malformed(self, is_group_within, (one, other))
                malformed(self, same_group, (one, other))
                continue
            members, others = set(lists_of(one)), set(lists_of(other))
            self.assertIs(is_group_within(one, other), members <= others)
            self.assertIs(same_group(one, other), members == others)
        self.assertIs(is_group_within(EVEN_24, ALL_24), True)
        self.assertIs(is_group_within(ALL_24, EVEN_24), False)
        self.assertIs(same_group(ALL_24, GREAT[-1]), True)
        self.assertIs(same_group(MATHIEU, EVEN_24), False)
        self.assertIs(is_group_within(MATHIEU, EVEN_24), True)
        self.assertIs(is_group_within((24, ()), MATHIEU), True)


class Lists(unittest.TestCase):
    def test_least_words(self):
        for S in SMALL:
            members = lists_of(S)
            if len(members) > 24:
                continue
            first = {}
            for w in words_to(len(S[1]), 6):
                first.setdefault(tuple(walk(S, x, w) for x in range(S[0])), w)
            for p in all_permutations(min(S[0], 5)):
                if len(p) == S[0]:
                    w = least_word_to(S, p)
                    self.assertEqual(w is None, p not in members)
                    if p in first:
                        self.assertEqual(w, first[p])
                    elif w is not None:
                        self.assertGreater(len(w), 6)

    def test_least_words_great(self):
        S = beside(FIVE, (9, [cycle_row(9)]), SEVEN)
        S = (21, (tuple(S[1][0][S[1][1][S[1][2][x]]] for x in range(21)),))
        p = tuple(range(21))
        for _ in range(150):
            p = mul(p, S[1][0])
        self.assertEqual(least_word_to(S, p), (1,) * 150)
        self.assertEqual(least_word_to(S, inv(p)), (-1,) * 150)
        q = (6, 0, 1, 2, 3, 4, 5)
        w = least_word_to(ALL_7, q)
        self.assertEqual(w, (-1,))
        w = least_word_to(ALL_7, (6, 5, 4, 3, 2, 1, 0))
        self.assertIs(is_word(w, 2), True)
        self.assertEqual([walk(ALL_7, x, w) for x in range(7)], [6, 5, 4, 3, 2, 1, 0])
        self.assertIsNone(least_word_to(PLANE, swap_row(7, 0, 1)))

    def test_classes_and_types(self):
        for S in SMALL:
            members = lists_of(S)
            classes = {frozenset(mul(mul(inv(f), h), f) for f in members) for h in members}
            self.assertEqual(conjugacy_sizes(S), tuple(sorted(len(one) for one in classes)))
            types = [cycle_type(g) for g in members]
            self.assertEqual(type_numbers(S), tuple((mu, types.count(mu)) for mu in sorted(set(types))))

    def test_at_the_bounds(self):
        self.assertEqual(len(group_members(ALL_7)), 5040)
        self.assertEqual(len(conjugacy_sizes(ALL_7)), 15)
        self.assertEqual(sum(conjugacy_sizes(ALL_7)), 5040)
        self.assertEqual(len(type_numbers(ALL_8)), 22)
        self.assertEqual(sum(many for _, many in type_numbers(ALL_8)), 40320)
        self.assertEqual(dict(type_numbers(ALL_8))[(8,)], 5040)
        for S in ABOVE_5040:
            self.assertEqual(sum(many for _, many in type_numbers(S)), group_order(S))

    def test_above_the_bounds(self):
        self.assertEqual([group_order(S) for S in ABOVE_5040 + ABOVE_40320], [5103, 5120, 40960])
        for S in ABOVE_5040 + ABOVE_40320 + GREAT:
            if group_order(S) > 5040:
                refused(self, "many", group_members, S)
                refused(self, "many", conjugacy_sizes, S)
                refused(self, "many", least_word_to, S, S[1][0])
                refused(self, "many", least_word_to, S, swap_row(S[0], 0, S[0] - 1))
        for S in ABOVE_40320 + [ALL_24, EVEN_24, MATHIEU, WREATH]:
            refused(self, "many", type_numbers, S)

    def test_malformed_ahead_of_refused(self):
        malformed(self, least_word_to, (ALL_24, (0, 1)), (ALL_24, None), (ALL_24, list(range(24))),
                  (ALL_24, (True,) + tuple(range(1, 24))[::-1]))
        for function in (group_members, conjugacy_sizes, type_numbers):
            malformed(self, function, (list(ALL_24),), ((24, list(ALL_24[1])),), ((24, ALL_24[1] + ((0,),)),))


class Orbits(unittest.TestCase):
    def test_orbits_fixing(self):
        for S in SMALL:
            members = lists_of(S)
            for many in range(min(S[0], 5) + 1):
                for sheets in itertools.combinations(range(S[0]), many):
                    fixing = [g for g in members if all(g[x] == x for x in sheets)]
                    told = tuple(sorted({tuple(sorted({g[x] for g in fixing})) for x in range(S[0])}))
                    self.assertEqual(orbits_fixing(S, sheets), told)

    def test_orbits_fixing_great(self):
        self.assertEqual(orbits_fixing(ALL_24, (3, 7)), ((0, 1, 2) + tuple(range(4, 7)) + tuple(range(8, 24)), (3,), (7,)))
        self.assertEqual(sorted(map(len, orbits_fixing(MATHIEU, (1, 5, 8, 20, 23)))), [1] * 5 + [3, 16])
        self.assertEqual(orbits_fixing(EVEN_24, tuple(range(22))), tuple((x,) for x in range(24)))
        self.assertEqual(orbits_fixing(EVEN_24, tuple(range(1, 22))), ((0, 22, 23),) + tuple((x,) for x in range(1, 22)))
        self.assertEqual(orbits_fixing(ALL_24, tuple(range(24))), tuple((x,) for x in range(24)))
        for S in GREAT:
            self.assertEqual(orbits_fixing(S, ()), tuple(sorted({tuple(sorted(orbit_of(S[1], x))) for x in range(24)})))

    def test_wrong_sheets(self):
        for sheets in ((1, 0), (0, 0), (5,), (-1,), (0, 5), [0, 1], (True,), (0, True), ("0",), None, 0, ((0,),), (0, 2, 1)):
            malformed(self, orbits_fixing, (AFFINE, sheets))
        malformed_in_each_place(self, orbits_fixing, (AFFINE, (0, 1)), [
            lambda v: system(v) and v[0] > 1,
            lambda v: isinstance(v, tuple) and all(whole(x) and 0 <= x < 5 for x in v) and list(v) == sorted(set(v))])

    def test_transitive_degree(self):
        for S in SMALL:
            members = lists_of(S)
            degree = 0
            for k in range(1, min(S[0], 5) + 1):
                rows = list(itertools.permutations(range(S[0]), k))
                if {g[:k] for g in members} == set(rows):
                    degree = k
                else:
                    break
            self.assertEqual(transitive_degree(S), degree)
        self.assertEqual([transitive_degree(S) for S in (ALL_24, EVEN_24, MATHIEU, WREATH, CUT)], [24, 22, 5, 1, 0])
        self.assertEqual(transitive_degree((2, ((1, 0),))), 2)
        self.assertEqual(transitive_degree((3, (cycle_row(3),))), 1)


class Derived(unittest.TestCase):
    def test_small(self):
        for S in SMALL:
            members = group_list(S[0], S[1])
            orders = [len(members)]
            while True:
                makers = {mul(mul(g, h), mul(inv(g), inv(h))) for g in members for h in members}
                members = group_list(S[0], makers)
                if len(members) == orders[-1]:
                    break
                orders.append(len(members))
            self.assertEqual(derived_orders(S), tuple(orders))
            self.assertIs(is_solvable(S), orders[-1] == 1)

    def test_great(self):
        self.assertEqual(derived_orders(ALL_24), (factorial(24), factorial(24) // 2))
        self.assertEqual(derived_orders(EVEN_24), (factorial(24) // 2,))
        self.assertEqual(derived_orders(MATHIEU), (244823040,))
        self.assertEqual(derived_orders(CUT), (4096, 1))
        self.assertEqual(derived_orders(WREATH), (49152, 2048, 1))
        self.assertEqual(derived_orders(beside(ALL_4, ALL_5, ALL_4)), (24 * 120 * 24, 12 * 60 * 12, 4 * 60 * 4, 60))
        self.assertEqual([is_solvable(S) for S in (ALL_24, EVEN_24, MATHIEU, CUT, WREATH)],
                         [False, False, False, True, True])
        self.assertEqual(derived_orders(AFFINE), (20, 5, 1))
        self.assertEqual(derived_orders(PLANE), (168,))

    def test_giants(self):
        for S in SMALL:
            members = group_list(S[0], S[1])
            even = [p for p in all_permutations(S[0]) if sign_of(p) == 1]
            self.assertIs(is_giant(S), all(p in members for p in even))
        self.assertEqual([is_giant(S) for S in GREAT], [True, True, False, False, False, True])
        for d in range(2, 25):
            self.assertIs(is_giant((d, (cycle_row(d), swap_row(d, 0, 1)))), True)
        # Swaps that join all sheets make all permutations.
        self.assertEqual(group_order((13, tuple(swap_row(13, i // 2, i + 1) for i in range(12)))), factorial(13))


class Wrong(unittest.TestCase):
    def test_malformed(self):
        for function in (group_order, told_base, base_orbits, least_ladder, group_members, conjugacy_sizes, type_numbers,
                         transitive_degree, derived_orders, is_solvable, is_giant):
            malformed_in_each_place(self, function, (AFFINE,), [system])
        for function in (sifted_through, is_member, least_of_coset, least_word_to):
            malformed_in_each_place(self, function, (AFFINE, (0, 1, 2, 3, 4)), [
                lambda v: system(v) and v[0] == 5, lambda v: permutation(v) and len(v) == 5])
            malformed(self, function, (AFFINE, (0, 1)), (AFFINE, (0, 1, 2, 3, 3)), (AFFINE, [0, 1, 2, 3, 4]),
                      (AFFINE, (False, True, 2, 3, 4)), ((0, ()), (0,)), (AFFINE, (0, 1, 2, 3, 4, 5)))
        for function in (is_group_within, same_group):
            malformed_in_each_place(self, function, (AFFINE, AFFINE), [lambda v: system(v) and v[0] == 5] * 2)
            # The numbers of permutations may be unlike.
            self.assertIs(function((5, ()), (5, ((0, 1, 2, 3, 4),))), True)


if __name__ == "__main__":
    unittest.main()
