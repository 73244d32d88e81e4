"""Points 9.1 to 9.5: classes and the class algebra."""

import itertools
import random
import unittest
from math import factorial, prod

from branchsheets.classalgebra import class_constant, class_power, class_product, class_row_of, class_table
from branchsheets.classalgebra import is_class_row, product_row_of, row_sum, signed_row_sum, tuple_number
from branchsheets.cutjoin import move_number
from branchsheets.partitions import class_size
from helpers import VALUES, all_permutations, inv, lengths, malformed, malformed_in_each_place, mul, of_type
from helpers import partition, partition_of, partitions_by_trying, product_by_walking, refused, whole

PARTS = {d: partitions_by_trying(d) for d in range(13)}


def random_row(source, d, most=9):
    return tuple(source.randint(-most, most) for _ in PARTS[d])


def whole_row(value):
    return isinstance(value, tuple) and all(whole(n) for n in value)


def product_by_permutations(one, two, d):
    """The product of two class rows, by all products of permutations."""
    weight_one, weight_two = dict(zip(PARTS[d], one)), dict(zip(PARTS[d], two))
    total = {p: 0 for p in all_permutations(d)}
    for p in total:
        for q in total:
            total[mul(p, q)] += weight_one[lengths(p)] * weight_two[lengths(q)]
    row = {}
    for p, n in total.items():
        assert row.setdefault(lengths(p), n) == n
    return tuple(row[mu] for mu in PARTS[d])


class Rows(unittest.TestCase):
    def test_is_class_row(self):
        more = [tuple(range(len(PARTS[d]))) for d in range(10)] + [(1, 0, True), (1, 0, 0.0), [1, 0, 0], (0,) * 22]
        for d in range(9):
            for value in VALUES + more:
                fits = whole_row(value) and len(value) == len(PARTS[d])
                self.assertIs(is_class_row(value, d), fits, (value, d))

    def test_is_class_row_large(self):
        self.assertEqual((len(PARTS[8]), len(PARTS[9])), (22, 30))
        for value, fits in (((1,) * 22, True), ((1,) * 30, False), ((1, 2), False), (None, False)):
            self.assertIs(is_class_row(value, 8), fits)
        for d in (9, 10, 12, 24, 25, 10 ** 60):
            for value in [(1,) * 22, (1,) * 30, (1, 2), (), [1, 2], None] + VALUES:
                refused(self, "large", is_class_row, value, d)

    def test_is_class_row_malformed(self):
        for d in VALUES:
            if not (whole(d) and d >= 0):
                malformed(self, is_class_row, ((1,), d), (None, d))

    def test_errors_in_order_above_8(self):
        for d in (9, 10 ** 60):
            for row in ((1, 2), (1,) * 30, ()):
                refused(self, "large", row_sum, row, d)
                refused(self, "large", signed_row_sum, row, d)
                refused(self, "large", class_product, row, (5,), d)
                refused(self, "large", class_power, row, 2, d)
            for row in (None, [1, 2], (True,), (1, None), 5):
                malformed(self, row_sum, (row, d))
                malformed(self, signed_row_sum, (row, d))
                malformed(self, class_product, (row, (1,), d), ((1,), row, d))
                malformed(self, class_power, (row, 2, d))
            malformed(self, class_power, ((1, 2), 41, d), ((1, 2), -1, d), ((1, 2), True, d))

    def test_class_row_of(self):
        for d in range(9):
            for mu in PARTS[d]:
                row = class_row_of(mu)
                self.assertEqual(row, tuple(int(nu == mu) for nu in PARTS[d]))
                self.assertIs(is_class_row(row, d), True)
                self.assertEqual(row_sum(row, d), class_size(mu))
                self.assertEqual(signed_row_sum(row, d), class_size(mu) * (-1) ** (d - len(mu)))

    def test_sums_are_sums_over_permutations(self):
        source = random.Random(1)
        for d in range(7):
            row = random_row(source, d)
            weight = dict(zip(PARTS[d], row))
            types = [lengths(p) for p in all_permutations(d)]
            self.assertEqual(row_sum(row, d), sum(weight[mu] for mu in types))
            self.assertEqual(signed_row_sum(row, d), sum(weight[mu] * (-1) ** (d - len(mu)) for mu in types))

    def test_sums_multiply(self):
        source = random.Random(2)
        for d in range(9):
            one, two = random_row(source, d), random_row(source, d, 10 ** 30)
            product = class_product(one, two, d)
            self.assertEqual(row_sum(product, d), row_sum(one, d) * row_sum(two, d))
            self.assertEqual(signed_row_sum(product, d), signed_row_sum(one, d) * signed_row_sum(two, d))


class Constants(unittest.TestCase):
    def test_constants_by_permutations(self):
        for d in range(6):
            for mu, lam in itertools.product(PARTS[d], repeat=2):
                counts = {nu: 0 for nu in PARTS[d]}
                r = of_type(lam)[-1]
                for p in of_type(mu):
                    counts[lengths(mul(inv(p), r))] += 1
                for nu in PARTS[d]:
                    self.assertEqual(class_constant(mu, nu, lam), counts[nu])

    def test_tables(self):
        for d in range(7):
            for mu in PARTS[d]:
                table = class_table(mu)
                self.assertEqual(len(table), len(PARTS[d]))
                for nu, row in zip(PARTS[d], table):
                    self.assertIs(is_class_row(row, d), True)
                    if d < 6:
                        self.assertEqual(row, tuple(class_constant(mu, nu, lam) for lam in PARTS[d]))
                    self.assertEqual(row, class_product(class_row_of(mu), class_row_of(nu), d))

    def test_great_tables(self):
        for d in (7, 8):
            for mu in PARTS[d][::4] + PARTS[d][-1:]:
                for nu, row in zip(PARTS[d], class_table(mu)):
                    self.assertEqual(row_sum(row, d), class_size(mu) * class_size(nu))
                    for lam, n in zip(PARTS[d], row):
                        if (3 * d - len(mu) - len(nu) - len(lam)) % 2:
                            self.assertEqual(n, 0)
            mu, nu, lam = PARTS[d][-1], PARTS[d][-2], PARTS[d][-3]
            n = class_table(mu)[-2][-3]
            self.assertEqual(class_constant(mu, nu, lam), n)
            self.assertEqual(tuple_number((mu, nu, lam), d), n * class_size(lam))

    def test_swaps_join_and_cut(self):
        for d in range(2, 9):
            swap = (2,) + (1,) * (d - 2)
            for nu, row in zip(PARTS[d], class_table(swap)):
                self.assertEqual(row, tuple(move_number(lam, nu) for lam in PARTS[d]))

    def test_tables_commute(self):
        for d in range(6):
            tables = {mu: class_table(mu) for mu in PARTS[d]}
            size = range(len(PARTS[d]))

            def times(one, two):
                return [[sum(one[i][j] * two[j][k] for j in size) for k in size] for i in size]

            for mu, nu in itertools.product(PARTS[d], repeat=2):
                product = times(tables[mu], tables[nu])
                self.assertEqual(product, times(tables[nu], tables[mu]))
                row = class_product(class_row_of(mu), class_row_of(nu), d)
                told = [[sum(n * tables[lam][i][k] for n, lam in zip(row, PARTS[d])) for k in size] for i in size]
                self.assertEqual(product, told)


class Products(unittest.TestCase):
    def test_products_by_permutations(self):
        source = random.Random(3)
        for d in range(6):
            for _ in range(3):
                one, two = random_row(source, d), random_row(source, d)
                self.assertEqual(class_product(one, two, d), product_by_permutations(one, two, d))

    def test_ring(self):
        source = random.Random(4)
        for d in range(8):
            one, two, three = [random_row(source, d) for _ in range(3)]
            self.assertEqual(class_product(one, two, d), class_product(two, one, d))
            self.assertEqual(class_product(class_row_of((1,) * d), two, d), two)
            self.assertEqual(class_product(two, class_row_of((1,) * d), d), two)
            self.assertEqual(class_product(class_product(one, two, d), three, d),
                             class_product(one, class_product(two, three, d), d))
            both = tuple(a + 5 * b for a, b in zip(one, two))
            self.assertEqual(class_product(both, three, d),
                             tuple(a + 5 * b for a, b in zip(class_product(one, three, d),
                                                             class_product(two, three, d))))

    def test_greatest(self):
        source = random.Random(5)
        one, two = random_row(source, 8), random_row(source, 8)
        product = class_product(one, two, 8)
        self.assertEqual(product, class_product(two, one, 8))
        r = (1, 2, 0, 4, 3, 6, 7, 5)
        weight_one, weight_two = dict(zip(PARTS[8], one)), dict(zip(PARTS[8], two))
        total = sum(weight_one[lengths(p)] * weight_two[lengths(mul(inv(p), r))] for p in all_permutations(8))
        self.assertEqual(product[PARTS[8].index((3, 3, 2))], total)

    def test_powers(self):
        source = random.Random(6)
        for d in range(6):
            row = random_row(source, d)
            power = class_row_of((1,) * d)
            for n in range(41):
                if n < 5 or n > 38:
                    self.assertEqual(class_power(row, n, d), power)
                power = class_product(power, row, d)

    def test_great_power(self):
        row = random_row(random.Random(7), 8)
        power = class_power(row, 40, 8)
        self.assertEqual(row_sum(power, 8), row_sum(row, 8) ** 40)
        self.assertEqual(signed_row_sum(power, 8), signed_row_sum(row, 8) ** 40)
        self.assertEqual(class_power(row, 0, 8), class_row_of((1,) * 8))
        self.assertEqual(class_power(row, 1, 8), row)

    def test_product_rows(self):
        source = random.Random(8)
        for d in range(9):
            self.assertEqual(product_row_of((), d), class_row_of((1,) * d))
            for many in (1, 2, 5, 40):
                types = tuple(source.choice(PARTS[d]) for _ in range(many))
                row = product_row_of(types, d)
                self.assertEqual(row_sum(row, d), prod(class_size(mu) for mu in types))
                self.assertEqual(tuple_number(types, d), row[0])
                if d < 6:
                    told = class_row_of((1,) * d)
                    for mu in types:
                        told = class_product(told, class_row_of(mu), d)
                    self.assertEqual(row, told)

    def test_tuple_numbers(self):
        for d in range(5):
            unit = tuple(range(d))
            for k in range(4 if d < 4 else 3):
                for types in itertools.product(PARTS[d], repeat=k):
                    rows = itertools.product(*[of_type(mu) for mu in types])
                    number = sum(product_by_walking(d, row) == unit for row in rows)
                    self.assertEqual(tuple_number(types, d), number)
                    self.assertEqual(tuple_number(types[::-1], d), number)
                    if sum(d - len(mu) for mu in types) % 2:
                        self.assertEqual(number, 0)

    def test_tuple_numbers_told(self):
        self.assertEqual(tuple_number((), 0), 1)
        self.assertEqual(tuple_number(((), ()), 0), 1)
        self.assertEqual(tuple_number((), 8), 1)
        self.assertEqual(tuple_number(((8,), (8,)), 8), 5040)
        self.assertEqual(tuple_number(((8,), (2,) + (1,) * 6), 8), 0)
        for d in range(2, 7):
            swap = (2,) + (1,) * (d - 2)
            # Denes: d^(d - 2) rows of d - 1 swaps for each long cycle.
            self.assertEqual(tuple_number((swap,) * (d - 1) + ((d,),), d), d ** (d - 2) * factorial(d - 1))


class Wrong(unittest.TestCase):
    def test_each_place(self):
        def row_3(value):
            return whole_row(value) and len(value) == 3

        three = lambda value: value == 3 and whole(value)
        sheets = lambda value: three(value) or whole(value) and value > 8
        malformed_in_each_place(self, class_table, ((2, 1),), (partition,))
        malformed_in_each_place(self, class_row_of, ((2, 1),), (partition,))
        for function in (row_sum, signed_row_sum):
            malformed_in_each_place(self, function, ((1, 2, 3), 3), (row_3, sheets))
        fits = (partition_of(3),) * 3
        malformed_in_each_place(self, class_constant, ((2, 1), (2, 1), (3,)), fits)
        malformed_in_each_place(self, class_product, ((1, 2, 3), (0, 1, 0), 3), (row_3, row_3, sheets))
        power = lambda value: whole(value) and 0 <= value <= 40
        malformed_in_each_place(self, class_power, ((1, 2, 3), 4, 3), (row_3, power, sheets))
        types = lambda value: isinstance(value, tuple) and all(partition_of(3)(mu) for mu in value)
        for function in (product_row_of, tuple_number):
            malformed_in_each_place(self, function, (((2, 1), (3,)), 3), (types, three))

    def test_no_factors(self):
        for value in VALUES:
            if not (whole(value) and value >= 0):
                malformed(self, product_row_of, ((), value))
                malformed(self, tuple_number, ((), value))
                malformed(self, class_product, ((), (), value))
                malformed(self, class_power, ((1,), 0, value))

    def test_bounds(self):
        row = (1, 0, 0)
        malformed(self, class_power, (row, 41, 3), (row, -1, 3), (row, True, 3), (row, 10 ** 60, 3), ((1, 0), 2, 3))
        malformed(self, product_row_of, (((3,),) * 41, 3), (((3,), (2,)), 3), ([(3,)], 3), (((3,), [3]), 3),
                  (((1, 2),), 3), (((True, 1, 1),), 3))
        malformed(self, class_row_of, ((1, 2),), ([2, 1],), ((2, True),), (None,))
        malformed(self, class_constant, ((3,), (3,), (2,)), ((3,), (2,), (3,)), ((2,), (3,), (3,)))
        malformed(self, class_product, (row, [1, 0, 0], 3), ((1, 0, True), row, 3), (row, row, 2), (row, row, True))
        self.assertEqual(class_product((7,), (5,), 0), (35,))
        self.assertEqual(class_product((7,), (5,), 1), (35,))

    def test_large(self):
        nine, huge = (9,), (10 ** 60,)
        for mu in (nine, huge, (1,) * 9, (5, 4)):
            refused(self, "large", class_row_of, mu)
            refused(self, "large", class_table, mu)
            refused(self, "large", class_constant, mu, mu, mu)
            refused(self, "large", product_row_of, (mu, mu), sum(mu))
            refused(self, "large", tuple_number, (mu,), sum(mu))
        for d in (9, 12, 10 ** 60):
            refused(self, "large", row_sum, (1, 2), d)
            refused(self, "large", signed_row_sum, (), d)
            refused(self, "large", class_product, (1, 2), (3,), d)
            refused(self, "large", class_power, (1, 2), 40, d)
            refused(self, "large", product_row_of, (), d)
            refused(self, "large", tuple_number, (), d)

    def test_malformed_ahead_of_large(self):
        malformed(self, row_sum, ([1, 2], 9), ((1, True), 9), (None, 9))
        malformed(self, signed_row_sum, ([1, 2], 9), ((1, None), 9))
        malformed(self, class_product, ((1,), [1], 9), ([1], (1,), 9), ((1,), ("1",), 9))
        malformed(self, class_power, ((1,), 41, 9), ((1,), -1, 9), ([1], 2, 9))
        malformed(self, class_constant, ((9,), (9,), (8,)), ((9,), (9,), [9]), ((9,), None, (9,)))
        malformed(self, product_row_of, (((9,),) * 41, 9), (((9,), (8,)), 9), (((9,), None), 9), ([], 9))
        malformed(self, tuple_number, (((9,),) * 41, 9), (((9,), (8,)), 9), ([], 9))


if __name__ == "__main__":
    unittest.main()
