"""Points 1.2 to 1.5: partitions."""

import itertools
import unittest
from math import factorial

from branchsheets.partitions import centralizer_order, class_size, conjugate_of, content_sum, is_partition
from branchsheets.partitions import is_refinement, joined_parts, part_counts, partitions_of, repeat_number
from helpers import VALUES, all_permutations, malformed, malformed_in_each_place, partition, refused

MANY = [1, 1, 2, 3, 5, 7, 11, 15, 22, 30, 42, 56, 77, 101, 135, 176, 231, 297, 385, 490, 627, 792, 1002, 1255, 1575]


def lengths_by_walking(p):
    lengths, met = [], set()
    for x in range(len(p)):
        length = 0
        while x not in met:
            met.add(x)
            x = p[x]
            length += 1
        if length:
            lengths.append(length)
    return tuple(sorted(lengths, reverse=True))


def refines_by_trying(mu, nu):
    for places in itertools.product(range(len(nu)), repeat=len(mu)):
        sums = [0] * len(nu)
        for part, place in zip(mu, places):
            sums[place] += part
        if tuple(sums) == nu:
            return True
    return False


class Partitions(unittest.TestCase):
    def test_is_partition(self):
        for value in VALUES + [(3, 2, 2), (2, 3), (3, 0), (3, -1), (2, True), [2, 1], (2, "1")]:
            self.assertIs(is_partition(value), partition(value), repr(value))
        self.assertIs(is_partition(()), True)
        self.assertIs(is_partition((10 ** 50, 1)), True)

    def test_all(self):
        for d in range(25):
            rows = partitions_of(d)
            self.assertIsInstance(rows, tuple)
            self.assertEqual(len(rows), MANY[d])
            self.assertEqual(list(rows), sorted(set(rows)))
            self.assertTrue(all(partition(mu) and sum(mu) == d for mu in rows))
        self.assertEqual(partitions_of(0), ((),))

    def test_all_refused(self):
        for d in (25, 26, 100, 10 ** 100):
            refused(self, "large", partitions_of, d)
        malformed_in_each_place(self, partitions_of, (3,), [lambda v: isinstance(v, int) and v is not True
                                                            and v is not False and v >= 0])

    def test_counts(self):
        for d in range(13):
            for mu in partitions_of(d):
                rows = part_counts(mu)
                self.assertEqual(rows, tuple((j, mu.count(j)) for j in sorted(set(mu), reverse=True)))
                z, repeats = 1, 1
                for j, many in rows:
                    z *= j ** many * factorial(many)
                    repeats *= factorial(many)
                self.assertEqual(centralizer_order(mu), z)
                self.assertEqual(repeat_number(mu), repeats)
                self.assertEqual(class_size(mu), factorial(d) // z)

    def test_empty(self):
        self.assertEqual((part_counts(()), centralizer_order(()), repeat_number(()), class_size(())), ((), 1, 1, 1))
        self.assertEqual((conjugate_of(()), content_sum(()), joined_parts((), ())), ((), 0, ()))
        self.assertIs(is_refinement((), ()), True)
        self.assertIs(is_refinement((), (1,)), False)
        self.assertIs(is_refinement((1,), ()), False)

    def test_class_sizes_add_up(self):
        for d in range(25):
            self.assertEqual(sum(class_size(mu) for mu in partitions_of(d)), factorial(d))

    def test_class_sizes_by_lists(self):
        for d in range(7):
            rows = [lengths_by_walking(p) for p in all_permutations(d)]
            for mu in partitions_of(d):
                self.assertEqual(class_size(mu), rows.count(mu))

    def test_conjugates(self):
        for d in range(15):
            for mu in partitions_of(d):
                cells = {(i, j) for i, part in enumerate(mu) for j in range(part)}
                turned = conjugate_of(mu)
                self.assertTrue(partition(turned))
                self.assertEqual({(j, i) for i, part in enumerate(turned) for j in range(part)}, cells)
                self.assertEqual(conjugate_of(turned), mu)
                self.assertEqual(content_sum(mu), sum(j - i for i, j in cells))
                self.assertEqual(content_sum(turned), -content_sum(mu))
        self.assertEqual(content_sum((10 ** 30,)), 10 ** 30 * (10 ** 30 - 1) // 2)

    def test_joined(self):
        rows = [mu for d in range(6) for mu in partitions_of(d)]
        for mu in rows:
            for nu in rows:
                self.assertEqual(joined_parts(mu, nu), tuple(sorted(mu + nu))[::-1])

    def test_refinement(self):
        rows = [mu for d in range(8) for mu in partitions_of(d)]
        for mu in rows:
            for nu in rows:
                if sum(mu) == sum(nu):
                    self.assertIs(is_refinement(mu, nu), refines_by_trying(mu, nu), (mu, nu))
                else:
                    self.assertIs(is_refinement(mu, nu), False)

    def test_refinement_great(self):
        self.assertIs(is_refinement((1,) * 24, (4, 4, 4, 3, 3, 2, 2, 1, 1)), True)
        self.assertIs(is_refinement((5, 5, 4, 4, 3, 3), (12, 12)), True)
        self.assertIs(is_refinement((5, 5, 5, 5, 4), (12, 12)), False)
        self.assertIs(is_refinement((9, 8, 7), (24,)), True)
        self.assertIs(is_refinement((7, 7, 5, 5), (14, 10)), True)
        self.assertIs(is_refinement((7, 7, 5, 5), (13, 11)), False)

    def test_refinement_refused(self):
        refused(self, "large", is_refinement, (25,), (25,))
        refused(self, "large", is_refinement, (25,), (1,))
        refused(self, "large", is_refinement, (1,), (24, 1))
        self.assertIs(is_refinement((24,), (24,)), True)
        malformed(self, is_refinement, ((25,), (1, 2)), ((1, 2), (25,)), ((25,), True))

    def test_malformed(self):
        for function in (part_counts, centralizer_order, repeat_number, class_size, conjugate_of, content_sum):
            malformed_in_each_place(self, function, ((2, 1),), [partition])
        for function in (joined_parts, is_refinement):
            malformed_in_each_place(self, function, ((2, 1), (3,)), [partition, partition])


if __name__ == "__main__":
    unittest.main()
