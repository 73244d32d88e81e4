"""Points 12.1 to 12.7: cut and join."""

import itertools
import random
import unittest
from fractions import Fraction
from math import comb, factorial, prod

from branchsheets.cutjoin import connected_double, cut_and_join, double_number, is_type_walk, least_moves
from branchsheets.cutjoin import move_number, move_row, move_table, share_number, type_walk
from branchsheets.partitions import centralizer_order, content_sum, repeat_number
from branchsheets.rimhooks import rim_character
from helpers import VALUES, all_swaps, joins_all, lengths, malformed, malformed_in_each_place, mul, of_type
from helpers import partition, partition_of, partitions_by_trying, refused, whole

PARTS = {d: partitions_by_trying(d) for d in range(14)}
SMALL = [mu for d in range(7) for mu in PARTS[d]]
PAIRS = [(mu, nu) for d in range(7) for mu in PARTS[d] for nu in PARTS[d]]


def fraction(value):
    assert isinstance(value, tuple) and value[1] > 0
    told = Fraction(*value)
    assert (told.numerator, told.denominator) == value
    return told


def moves_by_walking(mu):
    """How often a swap leads one permutation of the type mu to each type."""
    a = of_type(mu)[0]
    counts = {}
    for t in all_swaps(sum(mu)):
        nu = lengths(mul(a, t))
        counts[nu] = counts.get(nu, 0) + 1
    return counts


def doubles_by_walking(d, r):
    """The numbers of all tuples and of the connected ones, by their types, over d!."""
    every, joined = {}, {}
    for mu in PARTS[d]:
        for a in of_type(mu):
            for swaps in itertools.product(all_swaps(d), repeat=r):
                b = a
                for t in swaps:
                    b = mul(b, t)
                key = (mu, lengths(b))
                every[key] = every.get(key, 0) + Fraction(1, factorial(d))
                if joins_all(d, (a,) + swaps):
                    joined[key] = joined.get(key, 0) + Fraction(1, factorial(d))
    return every, joined


def bundles(items):
    """All ways to part some items into bundles that are not empty."""
    if not items:
        yield []
        return
    for rest in bundles(items[1:]):
        yield [[items[0]]] + rest
        for at in range(len(rest)):
            yield rest[:at] + [[items[0]] + rest[at]] + rest[at + 1:]


def shares_by_trying(mu, nu):
    sums = {tuple(sorted(map(sum, rows))) for rows in bundles(list(nu))}
    return max(len(rows) for rows in bundles(list(mu)) if tuple(sorted(map(sum, rows))) in sums)


class Moves(unittest.TestCase):
    def test_moves(self):
        for mu in SMALL + [(4, 2, 1), (3, 3, 1), (2, 2, 2, 1)]:
            counts = moves_by_walking(mu)
            self.assertEqual(move_row(mu), tuple(sorted(counts.items())))
            for nu in PARTS[sum(mu)]:
                self.assertEqual(move_number(mu, nu), counts.get(nu, 0))

    def test_tables(self):
        for d in range(13):
            table = move_table(d)
            self.assertEqual(len(table), len(PARTS[d]))
            for mu, row in zip(PARTS[d], table):
                self.assertEqual(sum(row), d * (d - 1) // 2)
                self.assertEqual(dict(move_row(mu)), {nu: n for nu, n in zip(PARTS[d], row) if n})
            for i, j in itertools.product(range(len(table)), repeat=2):
                one = table[i][j] * centralizer_order(PARTS[d][j])
                self.assertEqual(one, table[j][i] * centralizer_order(PARTS[d][i]))
        self.assertEqual(move_table(0), ((0,),))
        self.assertEqual(move_table(1), ((0,),))
        self.assertEqual(move_row(()), ())

    def test_characters(self):
        for d in range(9):
            table = move_table(d)
            for lam in PARTS[d]:
                column = [rim_character(lam, mu) for mu in PARTS[d]]
                led = [sum(n * value for n, value in zip(row, column)) for row in table]
                self.assertEqual(led, [content_sum(lam) * value for value in column])

    def test_told(self):
        self.assertEqual(move_row((1, 1, 1)), (((2, 1), 3),))
        self.assertEqual(move_row((4,)), (((2, 2), 2), ((3, 1), 4)))


class Doubles(unittest.TestCase):
    def test_walked(self):
        for d, most in ((0, 4), (1, 4), (2, 5), (3, 4), (4, 3)):
            for r in range(most + 1):
                every, joined = doubles_by_walking(d, r)
                for mu, nu in itertools.product(PARTS[d], repeat=2):
                    self.assertEqual(fraction(double_number(mu, nu, r)), every.get((mu, nu), 0))
                    self.assertEqual(fraction(connected_double(mu, nu, r)), joined.get((mu, nu), 0))

    def test_characters(self):
        for d in range(8):
            for mu, nu in list(itertools.product(PARTS[d], repeat=2))[::3]:
                for r in (0, 1, 2, 5, 30):
                    total = sum(content_sum(lam) ** r * rim_character(lam, mu) * rim_character(lam, nu)
                                for lam in PARTS[d])
                    below = centralizer_order(mu) * centralizer_order(nu)
                    self.assertEqual(fraction(double_number(mu, nu, r)), Fraction(total, below))

    def test_exchanged(self):
        for mu, nu in PAIRS[::4]:
            for r in (0, 1, 2, 3, 6):
                self.assertEqual(double_number(mu, nu, r), double_number(nu, mu, r))
                self.assertEqual(connected_double(mu, nu, r), connected_double(nu, mu, r))

    def test_marked_sums(self):
        # Point 12.5, with the cycles marked one by one; the first cycle of a is that of the first part.
        cases = [((2, 1), (1, 1, 1), 5), ((2, 2, 1), (3, 1, 1), 4), ((3, 1, 1), (2, 2, 1), 7), ((1,) * 4, (2, 2), 6),
                 ((2, 1, 1, 1), (2, 2, 1), 30), ((4, 2), (3, 3), 3), ((1, 1), (1, 1), 30)]
        for mu, nu, r in cases:
            total = 0
            for some in subsets(range(1, len(mu))):
                one = tuple(mu[i] for i in (0,) + some)
                for others in subsets(range(len(nu))):
                    two = tuple(nu[i] for i in others)
                    if sum(one) == sum(two):
                        left = tuple(mu[i] for i in range(1, len(mu)) if i not in some)
                        rest = tuple(nu[i] for i in range(len(nu)) if i not in others)
                        for s in range(r + 1):
                            total += comb(r, s) * marked(connected_double, one, two, s) * marked(
                                double_number, left, rest, r - s)
            self.assertEqual(marked(double_number, mu, nu, r), total)

    def test_genus(self):
        for mu, nu in PAIRS[::3]:
            d, ends = sum(mu), len(mu) + len(nu)
            for r in range(8):
                told = fraction(connected_double(mu, nu, r))
                above = r >= ends - 2 and (r - ends) % 2 == 0 and (d > 1 or (d == 1 and r == 0))
                self.assertIs(told > 0, above)

    def test_told(self):
        self.assertEqual(double_number((1, 1, 1), (3,), 2), (1, 1))
        self.assertEqual(double_number((1, 1), (1, 1), 4), (1, 2))
        self.assertEqual(connected_double((1, 1), (1, 1), 4), (1, 2))
        self.assertEqual(double_number((), (), 0), (1, 1))
        self.assertEqual(double_number((), (), 1), (0, 1))
        self.assertEqual(connected_double((), (), 0), (0, 1))
        self.assertEqual(connected_double((), (), 30), (0, 1))
        self.assertEqual(connected_double((1,), (1,), 0), (1, 1))
        self.assertEqual(double_number((1,), (1,), 3), (0, 1))

    def test_greatest(self):
        for mu, nu in (((2, 2, 2, 1, 1, 1, 1), (4, 2, 1, 1, 1, 1)), ((1,) * 10, (1,) * 10), ((4, 3, 2, 1), (3, 3, 2, 2))):
            for r in (29, 30):
                every, joined = fraction(double_number(mu, nu, r)), fraction(connected_double(mu, nu, r))
                self.assertEqual(connected_double(nu, mu, r), connected_double(mu, nu, r))
                self.assertTrue(0 <= joined <= every)
                self.assertIs(joined > 0, (r + len(mu) + len(nu)) % 2 == 0)
        self.assertTrue(fraction(double_number((1,) * 12, (1,) * 12, 30)) > 0)
        self.assertTrue(fraction(double_number((12,), (6, 5, 1), 30)) > 0)


def subsets(items):
    items = list(items)
    return [row for n in range(len(items) + 1) for row in itertools.combinations(items, n)]


def marked(function, mu, nu, r):
    return fraction(function(mu, nu, r)) * repeat_number(mu) * repeat_number(nu)


def polynomial_value(F, point):
    return sum(fraction(c) * prod(point[i] for i in mu) for mu, c in F)


def operator_value(F, point):
    """Point 12.4, by derivatives."""
    total = Fraction(0)
    for mu, c in F:
        for i, j in itertools.product(range(1, 13), repeat=2):
            rest = list(mu)
            if i + j in mu:
                rest.remove(i + j)
                factor = mu.count(i + j) * (i + j) * point[i] * point[j]
                total += fraction(c) * factor * prod(point[n] for n in rest)
            rest = list(mu)
            if i in mu and (j in mu if i != j else mu.count(i) > 1):
                rest.remove(i)
                rest.remove(j)
                factor = mu.count(i) * (mu.count(j) - (i == j)) * i * j * point[i + j]
                total += fraction(c) * factor * prod(point[n] for n in rest)
    return total / 2


class Polynomials(unittest.TestCase):
    def test_one_term(self):
        for d in range(13):
            for mu in PARTS[d][::2]:
                told = cut_and_join(((mu, (1, 1)),))
                self.assertEqual(told, tuple((nu, (n, 1)) for nu, n in move_row(mu)))

    def test_operator(self):
        source = random.Random(1)
        for _ in range(40):
            some = source.sample([mu for d in range(8) for mu in PARTS[d]] + [(6, 4, 2), (12,)], source.randint(0, 6))
            F = []
            for mu in sorted(some):
                c = Fraction(source.choice([-3, -2, -1, 1, 2, 5]), source.randint(1, 6))
                F.append((mu, (c.numerator, c.denominator)))
            told = cut_and_join(tuple(F))
            self.assertEqual([mu for mu, _ in told], sorted({mu for mu, _ in told}))
            self.assertTrue(all(fraction(c) for _, c in told))
            for _ in range(2):
                point = [source.randint(-5, 5) for _ in range(30)]
                self.assertEqual(polynomial_value(told, point), operator_value(F, point))

    def test_terms_that_vanish(self):
        # From (2,) to (1, 1) once, from (1, 1) to (2,) once: the difference is led to its opposite.
        self.assertEqual(cut_and_join((((1, 1), (1, 1)), ((2,), (-1, 1)))), (((1, 1), (-1, 1)), ((2,), (1, 1))))
        # (2, 1) comes from (1, 1, 1) in 3 ways and from (3,) in 3 ways.
        self.assertEqual(cut_and_join((((1, 1, 1), (1, 1)), ((3,), (-1, 1)))), ())
        self.assertEqual(cut_and_join(()), ())
        self.assertEqual(cut_and_join((((), (5, 7)), ((1,), (2, 1)))), ())

    def test_wrong(self):
        good = (((1, 1), (1, 2)), ((2,), (1, 3)))
        cut_and_join(good)
        malformed(self, cut_and_join, (good[::-1],), (list(good),), ((good[0], good[0]),), (good[0],), (1,), (None,),
                  ((((1, 1), (2, 4)),),), ((((1, 1), (0, 1)),),), ((((1, 1), 1),),), ((((1, 2), (1, 1)),),),
                  ((((True, 1), (1, 1)),),), ((((1, 1), (True, 1)),),), ((((1, 1), [1, 1]),),), (([(1, 1), (1, 1)],),),
                  ((((13,), (1, 1)),),), ((((10 ** 60,), (1, 1)),),), ((((1, 1), (1, 1), 1),),))
        for value in VALUES:
            if value != ():
                malformed(self, cut_and_join, (value,))


class Walks(unittest.TestCase):
    def test_shares(self):
        for mu, nu in PAIRS:
            self.assertEqual(share_number(mu, nu), shares_by_trying(mu, nu) if mu else 0)
        for mu, nu in (((5, 3, 2, 1, 1), (4, 4, 2, 2)), ((3, 3, 2, 2, 1, 1), (6, 3, 2, 1)), ((4, 4, 4), (3, 3, 3, 3))):
            self.assertEqual(share_number(mu, nu), shares_by_trying(mu, nu))

    def test_least_moves(self):
        for mu, nu in PAIRS[::2]:
            least = least_moves(mu, nu)
            self.assertEqual(least, len(mu) + len(nu) - 2 * share_number(mu, nu))
            self.assertTrue(fraction(double_number(mu, nu, least)) > 0)
            self.assertTrue(all(fraction(double_number(mu, nu, r)) == 0 for r in range(least)))
        self.assertEqual((least_moves((3, 2), (4, 1)), least_moves((3, 2), (3, 1, 1)), least_moves((), ())), (2, 1, 0))

    def test_walks(self):
        for mu, nu in PAIRS[::2]:
            d = sum(mu)
            for r in range(8):
                even = (r + len(mu) + len(nu)) % 2 == 0
                there = even and r >= len(mu) + len(nu) - 2 * share_number(mu, nu) and (r == 0 or d > 1)
                self.assertIs(fraction(double_number(mu, nu, r)) > 0, there)
                walk = type_walk(mu, nu, r)
                if not there:
                    self.assertIs(walk, None)
                    continue
                self.assertEqual(len(walk), r + 1)
                self.assertEqual((walk[0], walk[-1]), (mu, nu))
                self.assertTrue(all(move_number(walk[i], walk[i + 1]) > 0 for i in range(r)))
                self.assertIs(is_type_walk(walk, mu, nu), True)

    def test_great_walks(self):
        for mu, nu in (((12,), (1,) * 12), ((6, 5, 1), (4, 4, 4)), ((1,) * 12, (1,) * 12), ((7, 5), (12,))):
            for r in (28, 29, 30):
                walk = type_walk(mu, nu, r)
                if (r + len(mu) + len(nu)) % 2:
                    self.assertIs(walk, None)
                else:
                    self.assertEqual(len(walk), r + 1)
                    self.assertIs(is_type_walk(walk, mu, nu), True)

    def test_is_type_walk(self):
        walk = ((3, 2), (5,), (4, 1))
        self.assertIs(is_type_walk(walk, (3, 2), (4, 1)), True)
        self.assertIs(is_type_walk(((2, 1),), (2, 1), (2, 1)), True)
        self.assertIs(is_type_walk(((),), (), ()), True)
        self.assertIs(is_type_walk(walk + ((5,), (4, 1)) * 500, (3, 2), (4, 1)), True)
        wrong = [(), ((3, 2),), ((4, 1),), walk[::-1], walk[1:], walk[:-1], ((3, 2), (4, 1)), list(walk), walk + ((4, 1),),
                 ((3, 2), [5], (4, 1)), ((3, 2), (5, 0), (4, 1)), ((3, 2), (4,), (4, 1)), ((3, 2), (10 ** 60,), (4, 1)),
                 ((3, 2), None, (4, 1)), ((3, 2), (5,), (5,), (4, 1)), ((3, 2), (2, 3), (4, 1)), "walk"]
        for value in wrong + VALUES:
            self.assertIs(is_type_walk(value, (3, 2), (4, 1)), False, value)
        self.assertIs(is_type_walk(((1,), (True,)), (1,), (1,)), False)
        self.assertIs(is_type_walk(((True,),), (1,), (1,)), False)
        self.assertIs(is_type_walk(((2,), (True, 1), (2,)), (2,), (2,)), False)
        self.assertIs(is_type_walk(((2,), (1, 1), (2,)), (2,), (2,)), True)


class Wrong(unittest.TestCase):
    def test_each_place(self):
        three = partition_of(3)
        swaps = lambda value: whole(value) and value >= 0
        for function in (move_number, share_number, least_moves):
            malformed_in_each_place(self, function, ((2, 1), (3,)), (three, three))
        malformed_in_each_place(self, move_row, ((2, 1),), (partition,))
        malformed_in_each_place(self, move_table, (3,), (swaps,))
        for function in (double_number, connected_double, type_walk):
            malformed_in_each_place(self, function, ((2, 1), (3,), 2), (three, three, swaps))
        malformed_in_each_place(self, is_type_walk, (((2, 1), (3,)), (2, 1), (3,)), (lambda value: True, three, three))

    def test_large(self):
        mu = (13,)
        for nu in ((13,), (1,) * 13):
            for function in (move_number, share_number, least_moves):
                refused(self, "large", function, mu, nu)
                malformed(self, function, (mu, (12,)), ((12,), nu))
            for function in (double_number, type_walk, connected_double):
                refused(self, "large", function, mu, nu, 2)
                refused(self, "large", function, mu, nu, 10 ** 60)
                malformed(self, function, (mu, nu, -1), (mu, nu, True), (mu, (12,), 2), (mu, [13], 31), (mu, nu, None))
            refused(self, "large", is_type_walk, (nu,), nu, nu)
            refused(self, "large", move_row, nu)
        for d in (13, 24, 10 ** 60):
            refused(self, "large", move_table, d)
            refused(self, "large", move_row, (d,))
        for function in (double_number, connected_double, type_walk):
            refused(self, "large", function, (2, 1), (3,), 31)
            refused(self, "large", function, (2, 1), (3,), 10 ** 60)
            malformed(self, function, ((2, 1), (2,), 31), ((2, 1), (3,), -1))
        for d in (11, 12):
            refused(self, "large", connected_double, (d,), (d,), 0)
            self.assertEqual(double_number((d,), (d,), 0), (1, d))
        self.assertEqual(connected_double((10,), (10,), 0), (1, 10))


if __name__ == "__main__":
    unittest.main()
