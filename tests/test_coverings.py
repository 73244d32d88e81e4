"""Points 11.1 to 11.6: numbers of covers."""

import itertools
import unittest
from fractions import Fraction
from math import comb, factorial, prod

from branchsheets.classalgebra import tuple_number
from branchsheets.coverings import connected_number, connected_swaps, connected_weight, cover_number, cover_weight
from branchsheets.coverings import datum_genus, is_datum, sub_data, surface_subgroups, swap_number
from branchsheets.finiteindex import transitive_tuples
from branchsheets.partitions import class_size
from branchsheets.rimhooks import rim_character
from branchsheets.whole import ratio
from helpers import VALUES, all_permutations, all_swaps, joins_all, malformed, malformed_in_each_place, of_type
from helpers import partition, partitions_by_trying, refused, rows_by_walking, whole

PARTS = {d: partitions_by_trying(d) for d in range(13)}


def walked_numbers(h, d, types, r=0):
    """The numbers of all rows and of the connected ones, by walking."""
    rows = list(rows_by_walking(h, d, [of_type(mu) for mu in types] + [all_swaps(d)] * r))
    return len(rows), sum(joins_all(d, row) for row in rows)


def data_for(d, most):
    for k in range(most + 1):
        yield from itertools.combinations_with_replacement(PARTS[d], k)


def is_datum_for(d):
    return lambda value: (isinstance(value, tuple) and len(value) <= 6
                          and all(partition(mu) and sum(mu) == d for mu in value))


class Data(unittest.TestCase):
    def test_is_datum(self):
        more = [((3,),), ((2, 1), (3,)), ((3,), [3]), [(3,)], ((3,),) * 6, ((3,),) * 7, ((1, 2),), ((2, True),),
                ((13,),), ((25,), (20, 5)), ((10 ** 60,),), ((), ()), ((),) * 6, ((),) * 7]
        for value in VALUES + more:
            for d in VALUES + [4, 5, 6]:
                fits = whole(d) and d >= 0 and is_datum_for(d)(value)
                self.assertIs(is_datum(value, d), fits, (value, d))

    def test_genus(self):
        for h in range(5):
            for d in range(7):
                for data in data_for(d, 2):
                    twice = 2 - (d * (2 - 2 * h) - sum(d - len(mu) for mu in data))
                    self.assertEqual(datum_genus(h, d, data), None if twice % 2 else twice // 2)
        self.assertEqual(datum_genus(0, 12, ()), -11)
        self.assertEqual(datum_genus(0, 0, ()), 1)
        self.assertEqual(datum_genus(4, 12, ((12,),) * 6), 70)
        self.assertIs(datum_genus(0, 3, ((2, 1),)), None)
        self.assertIs(datum_genus(0, 2, ((2,),) * 3), None)

    def test_sub_data(self):
        for d in range(9):
            for data in list(data_for(d, 2))[::3] + [((2,) * (d // 2) + (1,) * (d % 2),) * 3]:
                rows = []
                for e in range(1, d + 1):
                    for parts in itertools.product(PARTS[e], repeat=len(data)):
                        if all(all(part.count(j) <= mu.count(j) for j in part) for part, mu in zip(parts, data)):
                            rows.append((e, parts, comb(d - 1, e - 1)))
                self.assertEqual(sub_data(d, data), tuple(sorted(rows)))
        self.assertEqual(sub_data(0, ((), ())), ())
        self.assertEqual(sub_data(2, ()), ((1, (), 1), (2, (), 1)))


class Numbers(unittest.TestCase):
    def test_walked_over_the_sphere(self):
        for d in range(5):
            for data in data_for(d, 3 if d < 4 else 2):
                every, joined = walked_numbers(0, d, data)
                self.assertEqual(cover_number(0, d, data), every)
                self.assertEqual(connected_number(0, d, data), joined)
                self.assertEqual(cover_weight(0, d, data), ratio(every, factorial(d)))
                self.assertEqual(connected_weight(0, d, data), ratio(joined, factorial(d)))

    def test_walked_over_handles(self):
        for h, d, most in ((1, 2, 3), (1, 3, 2), (1, 4, 1), (2, 2, 2), (2, 3, 1), (3, 2, 1), (4, 2, 1), (1, 0, 1),
                           (3, 1, 2)):
            for data in data_for(d, most):
                every, joined = walked_numbers(h, d, data)
                self.assertEqual((cover_number(h, d, data), connected_number(h, d, data)), (every, joined), (h, data))

    def test_by_class_rows(self):
        for d in range(7):
            for data in list(data_for(d, 3))[::5]:
                self.assertEqual(cover_number(0, d, data), tuple_number(data, d))
                self.assertEqual(cover_number(0, d, data[::-1]), tuple_number(data, d))

    def test_formula(self):
        # Point 11.2, as it stands.
        for h, d in itertools.product(range(5), (5, 8, 12)):
            data = (PARTS[d][3], PARTS[d][-2], PARTS[d][5])
            total = 0
            for lam in PARTS[d]:
                f = rim_character(lam, (1,) * d)
                total += prod(rim_character(lam, mu) for mu in data) * Fraction(f) ** (2 - 2 * h - len(data))
            number = Fraction(factorial(d)) ** (2 * h - 1) * prod(class_size(mu) for mu in data) * total
            self.assertEqual(cover_number(h, d, data), number)

    def test_recursion(self):
        # Point 11.3 for the numbers themselves.
        for h, d, data in ((0, 6, ((2, 2, 1, 1), (3, 2, 1), (6,))), (0, 7, ((2, 1, 1, 1, 1, 1),) * 4),
                           (1, 5, ((3, 1, 1), (2, 2, 1))), (2, 8, ((3, 2, 1, 1, 1), (2, 2, 2, 1, 1))), (4, 8, ())):
            total = 0
            for e, parts, ways in sub_data(d, data):
                rests = tuple(rest_of(mu, part) for mu, part in zip(data, parts))
                total += ways * connected_number(h, e, parts) * cover_number(h, d - e, rests)
            self.assertEqual(cover_number(h, d, data), total)

    def test_no_connected_ones(self):
        for d in range(9):
            for data in list(data_for(d, 2))[::7] + [((2,) + (1,) * (d - 2),) * 4 if d > 1 else ()]:
                g = datum_genus(0, d, data)
                if g is None or g < 0:
                    self.assertEqual(connected_number(0, d, data), 0)
        for h in range(5):
            self.assertEqual(cover_number(h, 0, ((),) * 6), 1)
            self.assertEqual(connected_number(h, 0, ((),) * 6), 0)
            self.assertEqual(cover_number(h, 1, ((1,),) * 6), 1)
            self.assertEqual(connected_number(h, 1, ((1,),) * 6), 1)

    def test_told(self):
        self.assertEqual(cover_number(0, 3, ((2, 1),) * 3 + ((3,),)), 0)
        self.assertEqual(connected_number(0, 3, ((2, 1),) * 2 + ((3,),)), 6)
        self.assertEqual(cover_number(4, 12, ()) % factorial(12), 0)
        self.assertEqual(connected_weight(0, 2, ((2,), (2,))), (1, 2))

    def test_greatest(self):
        data = ((3, 2, 1, 1, 1), (2, 2, 1, 1, 1, 1), (4, 2, 1, 1), (3, 2, 2, 1), (2, 1, 1, 1, 1, 1, 1), (3, 1, 1, 1, 1, 1))
        every, joined = cover_number(4, 8, data), connected_number(4, 8, data)
        self.assertEqual(every, cover_number(4, 8, data[::-1]))
        self.assertEqual(joined, connected_number(4, 8, data[::-1]))
        self.assertTrue(0 < joined < every)
        self.assertTrue(cover_number(4, 12, ((12,), (6, 6), (2,) * 6, (3,) * 4, (11, 1), (12,))) > 0)


def rest_of(mu, parts):
    rest = list(mu)
    for part in parts:
        rest.remove(part)
    return tuple(rest)


class Swaps(unittest.TestCase):
    def test_walked(self):
        for h, d, most, r in ((0, 2, 2, 4), (0, 3, 2, 3), (0, 4, 1, 2), (1, 2, 1, 2), (1, 3, 1, 1), (0, 3, 1, 4)):
            for data in data_for(d, most):
                for many in range(r + 1):
                    every, joined = walked_numbers(h, d, data, many)
                    self.assertEqual(swap_number(h, d, many, data), every)
                    self.assertEqual(connected_swaps(h, d, many, data), joined)

    def test_no_swaps(self):
        for h, d in itertools.product(range(3), range(6)):
            for data in data_for(d, 2):
                self.assertEqual(swap_number(h, d, 0, data), cover_number(h, d, data))
                self.assertEqual(connected_swaps(h, d, 0, data), connected_number(h, d, data))

    def test_as_a_datum(self):
        for d in range(2, 9):
            swap = (2,) + (1,) * (d - 2)
            for r in range(1, 6):
                data = (PARTS[d][-1],)
                self.assertEqual(swap_number(1, d, r, data), cover_number(1, d, data + (swap,) * r))
                self.assertEqual(connected_swaps(0, d, r, data), connected_number(0, d, data + (swap,) * r))

    def test_few_sheets(self):
        for h in range(5):
            for d in (0, 1):
                data = ((1,) * d,) * 2
                self.assertEqual(swap_number(h, d, 0, data), 1)
                self.assertEqual(connected_swaps(h, d, 0, data), d)
                for r in (1, 2, 60):
                    self.assertEqual(swap_number(h, d, r, data), 0)
                    self.assertEqual(connected_swaps(h, d, r, data), 0)

    def test_many_swaps(self):
        self.assertEqual(swap_number(0, 2, 60, ()), 1)
        self.assertEqual(swap_number(0, 2, 59, ()), 0)
        self.assertEqual(connected_swaps(0, 2, 60, ()), 1)
        # The sums of the contents of three sheets are 3, 0 and -3; without a third sheet there is one swap, 3 times.
        self.assertEqual(swap_number(0, 3, 60, ()), (3 ** 60 + 0 + 3 ** 60) // 6)
        self.assertEqual(connected_swaps(0, 3, 60, ()), swap_number(0, 3, 60, ()) - 3)

    def test_recursion(self):
        # Point 11.5 for the numbers themselves.
        for h, d, r, data in ((0, 5, 6, ((3, 1, 1),)), (0, 6, 60, ((2, 2, 1, 1), (3, 3))), (1, 7, 9, ((4, 2, 1),))):
            total = 0
            for e, parts, ways in sub_data(d, data):
                rests = tuple(rest_of(mu, part) for mu, part in zip(data, parts))
                for s in range(r + 1):
                    total += (ways * comb(r, s) * connected_swaps(h, e, s, parts)
                              * swap_number(h, d - e, r - s, rests))
            self.assertEqual(swap_number(h, d, r, data), total)


class Surfaces(unittest.TestCase):
    def test_numbers(self):
        for d in range(1, 9):
            self.assertEqual(surface_subgroups(0, d), int(d == 1))
            self.assertEqual(surface_subgroups(1, d), sum(e for e in range(1, d + 1) if d % e == 0))
            for h in range(5):
                self.assertEqual(surface_subgroups(h, d) * factorial(d - 1), connected_number(h, d, ()))
        for h in range(5):
            # Index 2: all maps of the group onto two sheets.
            self.assertEqual(surface_subgroups(h, 2), 2 ** (2 * h) - 1)
            self.assertEqual(surface_subgroups(h, 1), 1)

    def test_closed_by_the_last_permutation(self):
        # Over the sphere with three points whatever the types: pairs of permutations that join all sheets.
        for d in range(1, 6):
            total = sum(connected_number(0, d, data) for data in itertools.product(PARTS[d], repeat=3))
            self.assertEqual(total, transitive_tuples(2, d))
            if d < 5:
                pairs = itertools.product(all_permutations(d), repeat=2)
                self.assertEqual(total, sum(joins_all(d, pair) for pair in pairs))


class Wrong(unittest.TestCase):
    def test_each_place(self):
        base = lambda value: whole(value) and 0 <= value <= 4
        three = lambda value: whole(value) and value == 3
        above = lambda value: whole(value) and 1 <= value <= 12
        swaps = lambda value: whole(value) and 0 <= value <= 60
        data = ((2, 1), (3,))
        for function in (cover_number, connected_number, cover_weight, connected_weight, datum_genus):
            malformed_in_each_place(self, function, (1, 3, data), (base, three, is_datum_for(3)))
        for function in (swap_number, connected_swaps):
            malformed_in_each_place(self, function, (1, 3, 2, data), (base, three, swaps, is_datum_for(3)))
        malformed_in_each_place(self, surface_subgroups, (1, 3), (base, above))
        malformed_in_each_place(self, sub_data, (3, data), (three, is_datum_for(3)))

    def test_bounds(self):
        for function in (cover_number, connected_number, cover_weight, connected_weight, datum_genus):
            malformed(self, function, (5, 3, ()), (-1, 3, ()), (0, 13, ()), (0, -1, ()), (0, 13, ((13,),)),
                      (0, 3, ((3,),) * 7), (0, 3, [(3,)]), (True, 3, ()), (0, True, ()), (0, 3, ((2,),)), (5, 13, ()))
        for function in (swap_number, connected_swaps):
            malformed(self, function, (5, 3, 2, ()), (0, 13, 2, ()), (0, 3, 61, ()), (0, 3, -1, ()), (0, 3, True, ()),
                      (0, 3, 2, ((3,),) * 7))
        malformed(self, surface_subgroups, (1, 0), (5, 1), (1, 13), (1, True))
        malformed(self, sub_data, (13, ()), (3, ((3,),) * 7), (-1, ()))

    def test_large(self):
        for d in (9, 10, 11, 12):
            data = ((d,),)
            refused(self, "large", connected_number, 4, d, data)
            refused(self, "large", connected_weight, 0, d, ())
            refused(self, "large", connected_swaps, 0, d, 60, data)
            refused(self, "large", surface_subgroups, 1, d)
            refused(self, "large", sub_data, d, data)
            malformed(self, connected_number, (5, d, ()), (0, d, ((d - 1,),)))
            malformed(self, connected_swaps, (0, d, 61, ()))
            malformed(self, surface_subgroups, (5, d))
            self.assertTrue(whole(cover_number(4, d, data)))
            self.assertTrue(whole(swap_number(4, d, 60, data)))
            self.assertEqual(cover_weight(1, d, ()), ratio(cover_number(1, d, ()), factorial(d)))


if __name__ == "__main__":
    unittest.main()
