"""Points 2.1 to 2.5: permutations."""

import random
import unittest
from math import factorial, lcm

from branchsheets.partitions import centralizer_order, class_size, partitions_of
from branchsheets.permutations import conjugate_by, cycle_type, cycles_of, inverse_of, is_permutation
from branchsheets.permutations import least_conjugator, least_of_type, order_of, partners_of, permutations_of_type
from branchsheets.permutations import power_of, product_of, product_row, sign_of, swap_product, swaps_of
from helpers import VALUES, all_permutations, cycle_row, inv, malformed, malformed_in_each_place, mul
from helpers import partition, permutation, random_permutation, refused, swap_row, whole

SMALL = [p for d in range(5) for p in all_permutations(d)]


def great(seed, many, most=60):
    source = random.Random(seed)
    return [random_permutation(source, source.randint(1, most)) for _ in range(many)]


def cycles_by_walking(p):
    cycles = []
    for x in range(len(p)):
        if not any(x in cycle for cycle in cycles):
            cycle = [x]
            while p[cycle[-1]] != x:
                cycle.append(p[cycle[-1]])
            cycles.append(tuple(cycle))
    return tuple(cycles)


class Products(unittest.TestCase):
    def test_is_permutation(self):
        for value in VALUES + [(1, 0, 3), (0, 1, 1), (2, 0, 1), (1, True), (-1, 0), (0.0,), ("0", "1")]:
            self.assertIs(is_permutation(value), permutation(value), repr(value))
        for p in SMALL + great(1, 20):
            self.assertIs(is_permutation(p), True)
            self.assertIs(is_permutation(list(p)), False)

    def test_products(self):
        for d in range(5):
            for p in all_permutations(d):
                self.assertEqual(mul(p, inverse_of(p)), tuple(range(d)))
                self.assertEqual(mul(inverse_of(p), p), tuple(range(d)))
                for q in all_permutations(d):
                    told = product_of(p, q)
                    self.assertIsInstance(told, tuple)
                    for x in range(d):
                        self.assertEqual(told[x], q[p[x]])

    def test_powers(self):
        for p in SMALL + great(2, 10):
            power = tuple(range(len(p)))
            for k in range(0, 14):
                self.assertEqual(power_of(p, k), power)
                self.assertEqual(power_of(p, -k), inv(power))
                power = mul(power, p)

    def test_great_powers(self):
        for p in great(3, 12):
            order = order_of(p)
            for k in (10 ** 3999 + 7, -10 ** 3999 - 11, 123456789 ** 60, -1, order, -order):
                self.assertEqual(power_of(p, k), power_of(p, k % order))

    def test_rows(self):
        self.assertEqual(product_row((), 0), ())
        self.assertEqual(product_row([], 3), (0, 1, 2))
        self.assertEqual(product_row((), 60), tuple(range(60)))
        self.assertEqual(product_row(((),), 0), ())
        source = random.Random(4)
        for d in range(1, 61):
            perms = [random_permutation(source, d) for _ in range(source.randint(1, 6))]
            product = tuple(range(d))
            for p in perms:
                product = mul(product, p)
            self.assertEqual(product_row(perms, d), product)
            self.assertEqual(product_row(tuple(perms), d), product)

    def test_lists_stay_as_they_are(self):
        perms, swaps = [(1, 0, 2), (0, 2, 1), (1, 2, 0)], [(0, 1), (1, 2), (0, 1)]
        for _ in range(2):
            self.assertEqual(product_row(perms, 3), (0, 1, 2))
            self.assertEqual(swap_product(swaps, 3), (2, 1, 0))
        self.assertEqual(perms, [(1, 0, 2), (0, 2, 1), (1, 2, 0)])
        self.assertEqual(swaps, [(0, 1), (1, 2), (0, 1)])

    def test_rows_malformed(self):
        good = ((1, 0), (0, 1))
        malformed(self, product_row, (good, 3), (good, 1), (good, "2"), (good, True), (good, None), (good, -1),
                  ((), -1), ((), 61), ((), 10 ** 60), ([], True), (None, 2), ("", 0), ("01", 2), (2, 2),
                  (((1, 0), [0, 1]), 2), (((1, 0), (0, 0)), 2), (((1, 0), (0, 1, 2)), 2), (((True, False),), 2),
                  ([(1, 0), None], 2), ({}, 0))


class Cycles(unittest.TestCase):
    def test_cycles(self):
        for p in SMALL + great(5, 40):
            cycles = cycles_by_walking(p)
            self.assertEqual(cycles_of(p), cycles)
            lengths = tuple(sorted([len(cycle) for cycle in cycles], reverse=True))
            self.assertEqual(cycle_type(p), lengths)
            self.assertEqual(order_of(p), lcm(*lengths) if lengths else 1)
            self.assertEqual(sign_of(p), 1 if (len(p) - len(cycles)) % 2 == 0 else -1)

    def test_no_sheets(self):
        self.assertEqual((cycles_of(()), cycle_type(()), order_of(()), sign_of(())), ((), (), 1, 1))
        self.assertEqual((inverse_of(()), power_of((), -5), product_of((), ()), conjugate_by((), ())), ((),) * 4)
        self.assertEqual((least_conjugator((), ()), partners_of(()), swaps_of(())), ((), ((),), ()))

    def test_order_is_the_least(self):
        for p in SMALL:
            n, power = 1, p
            while power != tuple(range(len(p))):
                n, power = n + 1, mul(power, p)
            self.assertEqual(order_of(p), n)

    def test_signs_multiply(self):
        for p in all_permutations(4):
            for q in all_permutations(4):
                self.assertEqual(sign_of(mul(p, q)), sign_of(p) * sign_of(q))


class Renumberings(unittest.TestCase):
    def test_conjugate_by(self):
        for d in range(5):
            for p in all_permutations(d):
                for f in all_permutations(d):
                    self.assertEqual(conjugate_by(p, f), mul(mul(inv(f), p), f))

    def test_least_conjugator(self):
        for d in range(5):
            rows = all_permutations(d)
            for p in rows:
                for q in rows:
                    fits = [f for f in rows if mul(mul(inv(f), p), f) == q]
                    self.assertEqual(least_conjugator(p, q), fits[0] if fits else None)
                    self.assertEqual(len(fits), centralizer_order(cycle_type(p)) if fits else 0)

    def test_least_conjugator_of_six(self):
        source = random.Random(6)
        rows = all_permutations(6)
        for _ in range(12):
            p, f = random_permutation(source, 6), random_permutation(source, 6)
            q = mul(mul(inv(f), p), f)
            self.assertEqual(least_conjugator(p, q), min(g for g in rows if mul(p, g) == mul(g, q)))

    def test_least_conjugator_great(self):
        source = random.Random(7)
        for p in great(8, 30):
            f = random_permutation(source, len(p))
            q = conjugate_by(p, f)
            g = least_conjugator(p, q)
            self.assertEqual(conjugate_by(p, g), q)
            self.assertLessEqual(g, f)
        self.assertIsNone(least_conjugator(cycle_row(60), swap_row(60, 0, 1)))

    def test_partners(self):
        for d in range(6):
            for p in all_permutations(d):
                self.assertEqual(partners_of(p), tuple(f for f in all_permutations(d) if mul(f, p) == mul(p, f)))

    def test_partners_great(self):
        p = least_of_type((9, 8, 7, 6, 1))
        rows = partners_of(p)
        self.assertEqual(len(rows), 9 * 8 * 7 * 6)
        self.assertEqual(list(rows), sorted(set(rows)))
        self.assertTrue(all(mul(f, p) == mul(p, f) for f in rows))
        self.assertEqual(len(partners_of(cycle_row(60))), 60)

    def test_partners_refused(self):
        self.assertEqual(len(partners_of(tuple(range(7)))), 5040)
        self.assertEqual(len(partners_of(least_of_type((10, 9, 8, 7)))), 5040)
        refused(self, "many", partners_of, tuple(range(8)))
        refused(self, "many", partners_of, least_of_type((11, 10, 8, 7)))
        refused(self, "many", partners_of, tuple(range(60)))
        refused(self, "many", partners_of, cycle_row(5041))
        self.assertEqual(centralizer_order((2, 2, 2, 2, 2, 1, 1)), 7680)
        refused(self, "many", partners_of, least_of_type((2, 2, 2, 2, 2, 1, 1)))


class Types(unittest.TestCase):
    def test_permutations_of_type(self):
        for d in range(7):
            rows = all_permutations(d)
            for mu in partitions_of(d):
                self.assertEqual(permutations_of_type(mu), tuple(p for p in rows if cycle_type(p) == mu))

    def test_permutations_of_type_eight(self):
        for d in (7, 8):
            total = 0
            for mu in partitions_of(d):
                rows = permutations_of_type(mu)
                self.assertEqual(len(rows), class_size(mu))
                self.assertEqual(list(rows), sorted(set(rows)))
                self.assertTrue(all(cycle_type(p) == mu for p in rows))
                total += len(rows)
            self.assertEqual(total, factorial(d))

    def test_refused(self):
        for mu in ((9,), (1,) * 9, (5, 4), (10 ** 60,)):
            refused(self, "large", permutations_of_type, mu)
        for mu in ((61,), (1,) * 61, (30, 30, 1), (10 ** 60, 3)):
            refused(self, "large", least_of_type, mu)

    def test_least_of_type(self):
        for d in range(9):
            for mu in partitions_of(d):
                self.assertEqual(least_of_type(mu), permutations_of_type(mu)[0])
        self.assertEqual(least_of_type((60,)), cycle_row(60))
        self.assertEqual(least_of_type((1,) * 60), tuple(range(60)))
        p = least_of_type((20, 20, 10, 9, 1))
        self.assertEqual(cycle_type(p), (20, 20, 10, 9, 1))
        self.assertEqual(p[:11], (0, 2, 3, 4, 5, 6, 7, 8, 9, 1, 11))


class Swaps(unittest.TestCase):
    def test_told_swaps(self):
        for p in SMALL + great(9, 40):
            told = tuple((cycle[0], x) for cycle in cycles_by_walking(p) for x in cycle[1:])
            self.assertEqual(swaps_of(p), told)
            self.assertEqual(swap_product(told, len(p)), p)
            self.assertEqual(swap_product(list(told), len(p)), p)
            self.assertEqual(len(told), len(p) - len(cycles_of(p)))

    def test_products_of_swaps(self):
        source = random.Random(10)
        for d in range(2, 61):
            swaps = [tuple(sorted(source.sample(range(d), 2))) for _ in range(20)]
            product = tuple(range(d))
            for a, b in swaps:
                product = mul(product, swap_row(d, a, b))
            self.assertEqual(swap_product(swaps, d), product)
        self.assertEqual(swap_product((), 0), ())
        self.assertEqual(swap_product([], 60), tuple(range(60)))

    def test_malformed_swaps(self):
        malformed(self, swap_product, (((1, 0),), 3), (((0, 0),), 3), (((0, 3),), 3), (((-1, 1),), 3),
                  (((0, 1, 2),), 3), (((0,),), 3), (([0, 1],), 3), (((False, True),), 3), (((0, True),), 3),
                  (((0, "1"),), 3), ((None,), 3), ((0, 1), 3), ((), -1), ((), 61), ((), True), ((), None), ((), "3"),
                  ([], 10 ** 60), (None, 3), ("", 3), (((0, 1), (1, 2), (2, 1)), 3), (((0, 1),), 0), (((0, 1),), 1))


def one_of(*texts):
    return lambda value: repr(value) in texts


def sheets(value):
    return whole(value) and 0 <= value <= 60


class Wrong(unittest.TestCase):
    def test_malformed(self):
        def fits(value):
            return permutation(value) and len(value) == 2
        for function in (inverse_of, cycles_of, cycle_type, order_of, sign_of, partners_of, swaps_of):
            malformed_in_each_place(self, function, ((1, 0),), [permutation])
        for function in (product_of, conjugate_by, least_conjugator):
            malformed_in_each_place(self, function, ((1, 0), (0, 1)), [fits, fits])
            malformed(self, function, ((0, 1), (0, 1, 2)), ((), (0,)), ((0, 1, 2), (1, 0)))
        malformed_in_each_place(self, power_of, ((1, 0), 3), [permutation, whole])
        for function in (permutations_of_type, least_of_type):
            malformed_in_each_place(self, function, ((2, 1),), [partition])
        malformed_in_each_place(self, swap_product, ((), 3), [one_of("()", "[]", "((0, 1),)", "[(0, 1)]"), sheets])
        malformed_in_each_place(self, product_row, ((), 3), [one_of("()", "[]"), sheets])
        malformed_in_each_place(self, product_row, ([(0,)], 1), [one_of("()", "[]", "((0,),)"), one_of("1")])

    def test_malformed_ahead_of_refused(self):
        long = tuple(range(59)) + (58,)
        malformed(self, partners_of, (long,), (list(range(60)),))
        malformed(self, permutations_of_type, ((1, 20),), ([20],), ((20, True),))
        malformed(self, least_of_type, ((1, 70),), ([70],))


if __name__ == "__main__":
    unittest.main()
