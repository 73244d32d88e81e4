"""Points 14.1 to 14.5: closed formulas."""

import itertools
import random
import unittest
from fractions import Fraction
from math import factorial

from branchsheets.closedforms import cactus_number, even_product, even_quotient, four_ends, half_sine_row
from branchsheets.closedforms import joining_length, joining_rows, one_part_number, one_part_swaps, tree_rows
from branchsheets.coverings import connected_swaps
from branchsheets.cutjoin import connected_double, double_number
from branchsheets.partitions import class_size, repeat_number
from branchsheets.walkgraphs import connected_sum
from helpers import all_swaps, cycle_row, inv, joins_all, lengths, malformed, malformed_in_each_place, mul, of_type
from helpers import partition, partition_of, partitions_by_trying, product_by_walking, swap_row, whole

PARTS = {d: partitions_by_trying(d) for d in range(13)}


def fraction(value):
    told = Fraction(*value)
    assert (told.numerator, told.denominator) == value and isinstance(value, tuple)
    return told


def told(value):
    return (value.numerator, value.denominator)


def partition_to_24(value):
    return partition(value) and 1 <= sum(value) <= 24


class Joining(unittest.TestCase):
    def test_walked(self):
        for d, most in ((1, 5), (2, 5), (3, 5), (4, 4)):
            for mu in PARTS[d]:
                p, r = of_type(mu)[-1], d + len(mu) - 2
                self.assertEqual(joining_length(mu), r)
                if r > most:
                    continue
                for many in range(r + 1):
                    rows = [row for row in itertools.product(all_swaps(d), repeat=many)
                            if product_by_walking(d, row) == p and joins_all(d, row + (tuple(range(d)),))]
                    # None is shorter.
                    self.assertEqual(len(rows), joining_rows(mu) if many == r else 0)

    def test_by_other_ways(self):
        for d in range(1, 9):
            for mu in PARTS[d]:
                r = joining_length(mu)
                number = joining_rows(mu) * class_size(mu)
                self.assertEqual(connected_swaps(0, d, r, (mu,)), number)
                if r < 31:
                    self.assertEqual(fraction(connected_double((1,) * d, mu, r)), Fraction(number, factorial(d)))

    def test_told(self):
        self.assertEqual([joining_rows(mu) for mu in ((1,), (2,), (1, 1), (3,), (1, 1, 1))], [1, 1, 1, 3, 24])
        self.assertEqual(joining_rows((24,)), 24 ** 22)
        # (2 d - 2)! d^(d - 3)
        self.assertEqual(joining_rows((1,) * 24), factorial(46) * 24 ** 21)
        self.assertEqual(joining_length((24,)), 23)
        self.assertEqual((joining_length((1,)), joining_length((1,) * 24)), (0, 46))

    def test_trees(self):
        self.assertEqual(tree_rows(1), 1)
        self.assertEqual([tree_rows(d) for d in (2, 3, 60)], [1, 3, 60 ** 58])
        for d in range(1, 25):
            self.assertEqual(tree_rows(d), joining_rows((d,)))
        for d in range(1, 6):
            points = list(itertools.combinations(range(d), 2))
            trees = sum(joins_all(d, [cycle_row(d)] if d == 1 else [swap_row(d, *edge) for edge in edges])
                        for edges in itertools.combinations(points, d - 1))
            self.assertEqual(tree_rows(d), trees)


class Cacti(unittest.TestCase):
    def test_walked(self):
        for d in range(1, 6):
            for k in range(4):
                for types in itertools.combinations_with_replacement(PARTS[d], k):
                    if sum(d - len(mu) for mu in types) != d - 1:
                        self.assertEqual(cactus_number(d, types), 0)
                        continue
                    rows = itertools.product(*[of_type(mu) for mu in types[:-1]])
                    number = 0
                    for row in rows:
                        # The last one is told by the others.
                        last = mul(inv(product_by_walking(d, row)), cycle_row(d))
                        number += k > 0 and lengths(last) == types[-1]
                    if k == 0:
                        number = int(d == 1)
                    self.assertEqual(cactus_number(d, types), number)
                    self.assertEqual(cactus_number(d, types[::-1]), number)

    def test_told(self):
        self.assertEqual(cactus_number(1, ()), 1)
        self.assertEqual(cactus_number(2, ()), 0)
        self.assertEqual(cactus_number(1, ((1,),) * 6), 1)
        self.assertEqual(cactus_number(24, ((24,),)), 1)
        self.assertEqual(cactus_number(24, ((24,), (1,) * 24)), 1)
        self.assertEqual(cactus_number(24, ((24,), (2,) + (1,) * 22)), 0)
        for d in range(2, 8):
            swaps = ((2,) + (1,) * (d - 2),) * (d - 1)
            self.assertEqual(cactus_number(d, swaps), d ** (d - 2))

    def test_types_that_divide(self):
        self.assertEqual(cactus_number(4, ((2, 2), (2, 1, 1))), 2)


class Rows(unittest.TestCase):
    def test_half_sine(self):
        for n in range(13):
            row = half_sine_row(n)
            self.assertEqual(row, tuple((1, 4 ** j * factorial(2 * j + 1)) for j in range(n + 1)))

    def test_products(self):
        source = random.Random(1)
        for many in (1, 2, 5, 13):
            for _ in range(5):
                f = [Fraction(source.randint(-9, 9), source.randint(1, 9)) for _ in range(many)]
                h = [Fraction(source.randint(-9, 9), source.randint(1, 9)) for _ in range(many)]
                h[0] = h[0] or Fraction(2, 3)
                f_told, h_told = tuple(map(told, f)), tuple(map(told, h))
                product = tuple(told(sum(f[i] * h[n - i] for i in range(n + 1))) for n in range(many))
                self.assertEqual(even_product(f_told, h_told), product)
                self.assertEqual(even_quotient(product, h_told), f_told)
                self.assertEqual(even_product(even_quotient(f_told, h_told), h_told), f_told)
        sine = half_sine_row(12)
        self.assertEqual(even_quotient(sine, sine), ((1, 1),) + ((0, 1),) * 12)
        self.assertEqual(even_quotient(((1, 1),) + ((0, 1),) * 2, half_sine_row(2)), ((1, 1), (-1, 24), (7, 5760)))
        self.assertEqual(even_product(((0, 1),), ((0, 1),)), ((0, 1),))

    def test_wrong(self):
        one = ((1, 1), (1, 2))
        is_row = lambda value: False
        for function in (even_product, even_quotient):
            malformed_in_each_place(self, function, (one, one), (is_row, is_row))
            malformed(self, function, (one, one[:1]), (one[:1], one), (list(one), one), (one, list(one)),
                      (((2, 2), (1, 2)), one), (one, ((1, 1), (1, 0))), (one, ((1, 1), (1, True))), (one, (1, 1)),
                      (((1, 1), None), one), ((), ()))
        malformed(self, even_quotient, (one, ((0, 1), (1, 1))), (((0, 1),), ((0, 1),)))
        number = lambda value: whole(value) and 0 <= value <= 12
        malformed_in_each_place(self, half_sine_row, (3,), (number,))
        malformed(self, half_sine_row, (13,), (-1,))


class OnePart(unittest.TestCase):
    def test_by_double_numbers(self):
        for d in range(1, 13):
            for nu in PARTS[d]:
                for g in range(4):
                    r = one_part_swaps(nu, g)
                    self.assertEqual(r, 2 * g - 1 + len(nu))
                    if r <= 12:
                        number = fraction(double_number((d,), nu, r)) * repeat_number(nu)
                        self.assertEqual(fraction(one_part_number(nu, g)), number)
                        if d <= 10:
                            self.assertEqual(connected_double((d,), nu, r), double_number((d,), nu, r))

    def test_many_handles(self):
        for nu, g in (((3,), 12), ((2, 1), 12), ((1, 1, 1), 12), ((4, 4, 2), 12), ((5, 3, 2, 2), 12), ((1,), 0)):
            r = one_part_swaps(nu, g)
            number = fraction(double_number((sum(nu),), nu, r)) * repeat_number(nu)
            self.assertEqual(fraction(one_part_number(nu, g)), number)
        # One sheet has no swap.
        self.assertEqual(one_part_number((1,), 0), (1, 1))
        for g in range(1, 13):
            self.assertEqual(one_part_number((1,), g), (0, 1))
        self.assertTrue(fraction(one_part_number((1,) * 24, 12)) > 0)
        self.assertEqual(one_part_number((24,), 0), (1, 24))
        self.assertEqual(one_part_swaps((1,) * 24, 12), 47)


class FourEnds(unittest.TestCase):
    def test_by_double_numbers(self):
        for a, b in itertools.product(range(1, 6), repeat=2):
            for c in range(1, a + b):
                e = a + b - c
                mu, nu = tuple(sorted((a, b), reverse=True)), tuple(sorted((c, e), reverse=True))
                marks = repeat_number(mu) * repeat_number(nu)
                number = four_ends(a, b, c, e)
                self.assertEqual(number, 2 * max(a, b, c, e))
                self.assertEqual(number, fraction(connected_double(mu, nu, 2)) * marks)
                self.assertEqual(number, fraction(connected_sum(mu, nu, 2)) * marks)

    def test_chambers(self):
        self.assertEqual(four_ends(1000, 1, 1, 1000), 2000)
        self.assertEqual(four_ends(1000, 1000, 1000, 1000), 2000)
        for a, b, c, e in ((3, 1, 2, 2), (7, 2, 4, 5), (2, 7, 3, 6), (4, 5, 8, 1), (5, 4, 1, 8)):
            self.assertEqual(four_ends(a, b, c, e), a + b + abs(a - c) + abs(a - e))


class Wrong(unittest.TestCase):
    def test_each_place(self):
        genus = lambda value: whole(value) and 0 <= value <= 12
        for function in (joining_rows, joining_length):
            malformed_in_each_place(self, function, ((2, 1),), (partition_to_24,))
        types = lambda value: isinstance(value, tuple) and len(value) <= 6 and all(partition_of(3)(mu) for mu in value)
        three = lambda value: whole(value) and value == 3
        malformed_in_each_place(self, cactus_number, (3, ((2, 1), (2, 1))), (three, types))
        for function in (one_part_number, one_part_swaps):
            malformed_in_each_place(self, function, ((2, 1), 1), (partition_to_24, genus))
        two = lambda value: whole(value) and value == 2
        malformed_in_each_place(self, four_ends, (2, 2, 2, 2), (two,) * 4)
        points = lambda value: whole(value) and 1 <= value <= 60
        malformed_in_each_place(self, tree_rows, (3,), (points,))

    def test_bounds(self):
        for function in (joining_rows, joining_length):
            malformed(self, function, ((),), ((25,),), ((1,) * 25,), ((1, 2),), ([2, 1],), ((10 ** 60,),))
        malformed(self, cactus_number, (0, ()), (25, ()), (3, ((3,),) * 7), (3, ((2,),)), (3, [(3,)]), (True, ((1,),)))
        for function in (one_part_number, one_part_swaps):
            malformed(self, function, ((), 0), ((25,), 0), ((2, 1), 13), ((2, 1), -1), ((2, 1), True))
        malformed(self, four_ends, (0, 2, 1, 1), (2, 0, 1, 1), (1, 1, 2, 0), (1001, 1, 501, 501), (1, 2, 1, 1),
                  (True, 1, 1, 1), (501, 501, 1001, 1), (2, 2, -1, 5))
        malformed(self, tree_rows, (0,), (61,), (-1,), (True,))


if __name__ == "__main__":
    unittest.main()
