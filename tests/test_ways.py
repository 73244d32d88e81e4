"""Point 0.4, 1: one number of covers by several of its ways."""

import itertools
import unittest
from fractions import Fraction
from math import factorial, prod

from branchsheets.classalgebra import class_power, class_product, class_row_of, product_row_of, tuple_number
from branchsheets.closedforms import cactus_number, joining_length, joining_rows, one_part_number, one_part_swaps
from branchsheets.closedforms import tree_rows
from branchsheets.coverings import connected_number, connected_swaps, connected_weight, cover_number, cover_weight
from branchsheets.coverings import swap_number
from branchsheets.cutjoin import connected_double, double_number
from branchsheets.cyclefactors import chain_number, is_parking, long_cycle, parking_of
from branchsheets.partitions import class_size, repeat_number
from branchsheets.rimhooks import central_number, filling_number
from branchsheets.systems import is_connected
from branchsheets.walkgraphs import connected_sum, graph_sum
from helpers import all_swaps, of_type, partitions_by_trying, product_by_walking, rows_by_walking, swap_row

PARTS = {d: partitions_by_trying(d) for d in range(9)}


def swap_type(d):
    return (2,) + (1,) * (d - 2)


class Ways(unittest.TestCase):
    def test_data(self):
        for d in range(1, 5):
            for k in range(4 if d < 4 else 3):
                for data in itertools.combinations_with_replacement(PARTS[d], k):
                    rows = list(rows_by_walking(0, d, [of_type(mu) for mu in data]))
                    every, joined = len(rows), sum(is_connected((d, row)) for row in rows)
                    self.assertEqual(tuple_number(data, d), every)
                    self.assertEqual(cover_number(0, d, data), every)
                    characters = sum(prod(central_number(lam, mu) for mu in data) * filling_number(lam) ** 2
                                     for lam in PARTS[d])
                    self.assertEqual(characters, factorial(d) * every)
                    self.assertEqual(connected_number(0, d, data), joined)

    def test_two_points_and_swaps(self):
        for d in range(2, 7):
            for mu, nu in list(itertools.product(PARTS[d], repeat=2))[::2]:
                for r in range(5):
                    data = (mu,) + (swap_type(d),) * r + (nu,)
                    number = Fraction(tuple_number(data, d), factorial(d))
                    told = (number.numerator, number.denominator)
                    self.assertEqual(double_number(mu, nu, r), told)
                    self.assertEqual(graph_sum(mu, nu, r), told)
                    self.assertEqual(swap_number(0, d, r, (mu, nu)), number * factorial(d))
                    self.assertEqual(cover_weight(0, d, data), told)
                    row = class_product(class_power(class_row_of(swap_type(d)), r, d), class_row_of(mu), d)
                    self.assertEqual(Fraction(row[PARTS[d].index(nu)] * class_size(nu), factorial(d)), number)
                    joined = connected_weight(0, d, data)
                    self.assertEqual(connected_double(mu, nu, r), joined)
                    self.assertEqual(connected_sum(mu, nu, r), joined)
                    self.assertEqual(Fraction(connected_swaps(0, d, r, (mu, nu)), factorial(d)), Fraction(*joined))

    def test_walked_swaps(self):
        for d, r in ((2, 4), (3, 3), (4, 2)):
            for mu, nu in itertools.product(PARTS[d], repeat=2):
                rows = list(rows_by_walking(0, d, [of_type(mu)] + [all_swaps(d)] * r + [of_type(nu)]))
                joined = sum(is_connected((d, row)) for row in rows)
                self.assertEqual(Fraction(*graph_sum(mu, nu, r)) * factorial(d), len(rows))
                self.assertEqual(Fraction(*connected_double(mu, nu, r)) * factorial(d), joined)

    def test_one_point_and_swaps(self):
        for d in range(1, 7):
            for mu in PARTS[d]:
                r, ones = joining_length(mu), (1,) * d
                number = Fraction(joining_rows(mu) * class_size(mu), factorial(d))
                told = (number.numerator, number.denominator)
                self.assertEqual(connected_double(mu, ones, r), told)
                self.assertEqual(connected_swaps(0, d, r, (mu,)), number * factorial(d))
                if r < 7:
                    self.assertEqual(connected_sum(mu, ones, r), told)

    def test_a_point_of_one_part(self):
        for d in range(1, 7):
            for nu in PARTS[d]:
                for g in (0, 1):
                    r = one_part_swaps(nu, g)
                    if r < 6:
                        number = Fraction(*one_part_number(nu, g)) / repeat_number(nu)
                        self.assertEqual(Fraction(*connected_double((d,), nu, r)), number)
                        self.assertEqual(Fraction(*graph_sum((d,), nu, r)), number)
                        self.assertEqual(Fraction(swap_number(0, d, r, ((d,), nu)), factorial(d)), number)

    def test_the_long_cycle(self):
        for d in range(1, 6):
            c = long_cycle(d)
            rows = [row for row in itertools.product(itertools.combinations(range(d), 2), repeat=d - 1)
                    if product_by_walking(d, [swap_row(d, *pair) for pair in row]) == c]
            parked = {parking_of(row) for row in rows}
            places = itertools.product(range(1, d + 1), repeat=d - 1)
            self.assertEqual(parked, {row for row in places if is_parking(row)})
            for number in (len(rows), len(parked), joining_rows((d,))):
                self.assertEqual(number, tree_rows(d))
            if 1 < d:
                self.assertEqual(cactus_number(d, (swap_type(d),) * (d - 1)), tree_rows(d))
                self.assertEqual(product_row_of((swap_type(d),) * (d - 1), d)[-1], tree_rows(d))
                self.assertEqual(tuple_number((swap_type(d),) * (d - 1) + ((d,),), d),
                                 tree_rows(d) * factorial(d - 1))

    def test_two_factors_of_the_long_cycle(self):
        for d in range(1, 8):
            both = [(mu, nu) for mu, nu in itertools.product(PARTS[d], repeat=2) if len(mu) + len(nu) == d + 1]
            for mu, nu in both:
                number = cactus_number(d, (mu, nu))
                self.assertEqual(cover_number(0, d, (mu, nu, (d,))), number * factorial(d - 1))
                self.assertEqual(connected_number(0, d, (mu, nu, (d,))), number * factorial(d - 1))
                self.assertEqual(product_row_of((mu, nu), d)[-1], number)
            # Each permutation below the long cycle and its other side are such factors.
            self.assertEqual(sum(cactus_number(d, pair) for pair in both), chain_number(d, 1))


if __name__ == "__main__":
    unittest.main()
