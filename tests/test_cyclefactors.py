"""Points 15.1 to 15.7: factors of the long cycle."""

import itertools
import random
import unittest
from math import comb

from branchsheets.cyclefactors import below_cycle, chain_number, crossing_of, is_parking, joining_swaps, lies_below
from branchsheets.cyclefactors import long_cycle, other_side, parking_of, parting_number, shortest_swaps, swap_length
from branchsheets.cyclefactors import swaps_of_parking
from helpers import VALUES, all_permutations, cycle_row, inv, joins_all, lengths, malformed, malformed_in_each_place
from helpers import mul, partition, partitions_by_trying, permutation, random_permutation, refused, swap_row, whole


def length_of(p):
    return len(p) - len(lengths(p))


def below(p, q):
    return length_of(p) + length_of(mul(inv(p), q)) == length_of(q)


def cycles_of(p):
    rows = []
    for x in range(len(p)):
        if not any(x in row for row in rows):
            row = [x]
            while p[row[-1]] != x:
                row.append(p[row[-1]])
            rows.append(row)
    return rows


def crossing_by_words(p):
    """Points 15.2 and crossing_of, as they stand."""
    rows = cycles_of(p)
    first = [row[0] for row in rows if row != sorted(row)]
    if first:
        return ("cycle", min(first))
    at = {x: i for i, row in enumerate(rows) for x in row}
    for x, y, z, w in itertools.combinations(range(len(p)), 4):
        if at[x] == at[z] != at[y] == at[w]:
            return ("crossing", x, y, z, w)
    return None


def product_of_swaps(d, swaps):
    p = tuple(range(d))
    for a, b in swaps:
        p = mul(p, swap_row(d, a, b))
    return p


def is_swap_tuple(value, d):
    return isinstance(value, tuple) and all(
        isinstance(swap, tuple) and len(swap) == 2 and 0 <= swap[0] < swap[1] < d for swap in value)


def is_parking_by_words(value):
    if not (isinstance(value, tuple) and all(whole(n) for n in value)):
        return False
    return all(n >= 1 for n in value) and all(n <= i for i, n in enumerate(sorted(value), 1))


def parking_row_near(source, n):
    """A parking row from any row: on a circle of n + 1 places one of its turnings is one."""
    row = [source.randint(1, n + 1) for _ in range(n)]
    rows = [tuple((x + k) % (n + 1) + 1 for x in row) for k in range(n + 1)]
    return [row for row in rows if is_parking_by_words(row)][0]


class Order(unittest.TestCase):
    def test_long_cycle(self):
        for d in range(25):
            self.assertEqual(long_cycle(d), cycle_row(d))
        self.assertEqual((long_cycle(0), long_cycle(1), long_cycle(2)), ((), (0,), (1, 0)))

    def test_lengths(self):
        for d in range(6):
            for p in all_permutations(d):
                self.assertEqual(swap_length(p), length_of(p))
        self.assertEqual((swap_length(()), swap_length(cycle_row(24))), (0, 23))

    def test_lies_below(self):
        for d in range(5):
            rows = all_permutations(d)
            pairs = {(p, q): below(p, q) for p in rows for q in rows}
            for (p, q), fits in pairs.items():
                self.assertIs(lies_below(p, q), fits)
                if fits and p != q:
                    self.assertIs(lies_below(q, p), False)
                    self.assertTrue(all(pairs[p, r] for r in rows if pairs[q, r]))
            self.assertTrue(all(pairs[p, p] for p in rows))

    def test_crossings(self):
        for d in range(8):
            for p in all_permutations(d) if d < 7 else all_permutations(7)[::7]:
                told = crossing_of(p)
                self.assertEqual(told, crossing_by_words(p))
                self.assertIs(told is None, below(p, cycle_row(d)))

    def test_great_crossings(self):
        source = random.Random(1)
        for _ in range(60):
            d = source.randint(10, 24)
            p = cycle_row(d)
            for _ in range(source.randint(1, 8)):
                p = mul(p, swap_row(d, *sorted(source.sample(range(d), 2))))
            self.assertEqual(crossing_of(p), crossing_by_words(p))
        p = tuple(range(24))
        self.assertIs(crossing_of(p), None)
        far = mul(swap_row(24, 20, 22), swap_row(24, 21, 23))
        self.assertEqual(crossing_of(far), ("crossing", 20, 21, 22, 23))
        self.assertEqual(crossing_of(inv(cycle_row(24))), ("cycle", 0))

    def test_below_cycle(self):
        for d in range(8):
            c = cycle_row(d)
            rows = tuple(p for p in all_permutations(d) if below(p, c)) if d < 7 else below_cycle(7)
            self.assertEqual(below_cycle(d), rows)
            self.assertEqual(rows, tuple(sorted(set(rows))))
        for d in range(9):
            rows = below_cycle(d)
            self.assertEqual(len(rows), comb(2 * d, d) // (d + 1))
            self.assertTrue(all(permutation(p) and below(p, cycle_row(d)) for p in rows))
            counts = {}
            for p in rows:
                counts[lengths(p)] = counts.get(lengths(p), 0) + 1
            self.assertEqual(counts, {mu: parting_number(mu) for mu in partitions_by_trying(d)})
        refused(self, "large", below_cycle, 9)
        refused(self, "large", below_cycle, 24)

    def test_refinements(self):
        for d in range(6):
            rows = below_cycle(d)
            sets = {p: [set(row) for row in cycles_of(p)] for p in rows}
            for p, q in itertools.product(rows, repeat=2):
                finer = all(any(one <= other for other in sets[p]) for one in sets[q])
                self.assertIs(lies_below(q, p), finer)

    def test_other_sides(self):
        for d in range(8):
            for p in below_cycle(d):
                q = other_side(p)
                self.assertEqual(mul(p, q), cycle_row(d))
                self.assertIs(lies_below(q, cycle_row(d)), True)
                self.assertEqual(len(lengths(p)) + len(lengths(q)), d + 1 if d else 0)
        for d in range(6):
            for p in all_permutations(d):
                if not below(p, cycle_row(d)):
                    malformed(self, other_side, (p,))
        self.assertEqual(other_side(tuple(range(24))), cycle_row(24))
        self.assertEqual(other_side(cycle_row(24)), tuple(range(24)))

    def test_parting_numbers(self):
        self.assertEqual(parting_number(()), 1)
        self.assertEqual(parting_number((1,) * 24), 1)
        self.assertEqual(parting_number((24,)), 1)
        self.assertEqual(parting_number((12, 12)), 12)
        self.assertEqual(sum(parting_number(mu) for mu in partitions_by_trying(24)), comb(48, 24) // 25)

    def test_chains(self):
        for d in range(1, 5):
            rows = below_cycle(d)
            ways = {p: 1 for p in rows}
            self.assertEqual(chain_number(d, 0), 1)
            for k in range(1, 5):
                self.assertEqual(chain_number(d, k), sum(ways.values()))
                ways = {q: sum(n for p, n in ways.items() if below(p, q)) for q in rows}
        self.assertEqual(chain_number(1, 24), 1)
        self.assertEqual(chain_number(24, 24), comb(25 * 24, 23) // 24)
        self.assertEqual(chain_number(24, 1), comb(48, 24) // 25)


class Parking(unittest.TestCase):
    def test_is_parking(self):
        more = [(2, 1), (1, 1, 1), (1, 3, 1), (3, 1, 2), (3, 3, 1), (2, 2), (1, 1.0), (1, True), [1], (1,) * 30, (0, 1),
                (1, 10 ** 60), (1, None), tuple(range(1, 40))]
        for value in VALUES + more:
            self.assertIs(is_parking(value), is_parking_by_words(value), value)
        for n in range(6):
            rows = [row for row in itertools.product(range(n + 2), repeat=n) if is_parking(row)]
            self.assertEqual(rows, [row for row in itertools.product(range(n + 2), repeat=n)
                                    if is_parking_by_words(row)])
            self.assertEqual(len(rows), (n + 1) ** n // (n + 1))

    def test_rows_of_swaps(self):
        for d in range(1, 6):
            swaps = list(itertools.combinations(range(d), 2))
            rows = [row for row in itertools.product(swaps, repeat=d - 1) if product_of_swaps(d, row) == cycle_row(d)]
            self.assertEqual(len(rows), d ** d // d ** 2 if d > 1 else 1)
            parked = set()
            for row in rows:
                told = parking_of(row)
                self.assertEqual(told, tuple(a + 1 for a, _ in row))
                self.assertEqual(swaps_of_parking(told), row)
                parked.add(told)
            self.assertEqual(parked, {row for row in itertools.product(range(1, d), repeat=d - 1) if is_parking(row)})

    def test_great_rows(self):
        source = random.Random(2)
        rows = [parking_row_near(source, 23) for _ in range(40)] + [parking_row_near(source, 14) for _ in range(20)]
        rows += [(1,) * 23, tuple(range(1, 24)), tuple(range(23, 0, -1))]
        for row in rows:
            d = len(row) + 1
            swaps = swaps_of_parking(row)
            self.assertTrue(is_swap_tuple(swaps, d))
            self.assertEqual(product_of_swaps(d, swaps), cycle_row(d))
            self.assertEqual(parking_of(swaps), row)
        self.assertEqual(swaps_of_parking(()), ())
        self.assertEqual(parking_of(()), ())

    def test_wrong(self):
        good = ((0, 1), (0, 2))
        self.assertEqual(parking_of(good), (1, 1))
        malformed(self, parking_of, (good[::-1],), (good[:1] + ((1, 2),),), (list(good),), (good + ((0, 1),),),
                  (((1, 0), (0, 2)),), (((False, 1), (0, 2)),), (([0, 1], (0, 2)),), (((0, 1), (0, 3)),),
                  (((0, 1), None),), (((0, 1, 2), (0, 2)),), (((0, 0), (0, 2)),), (((-1, 1), (0, 2)),))
        malformed(self, swaps_of_parking, ((2, 2),), ([1, 1],), ((1, True),), ((0, 1),), ((1,) * 24,), ((1, 2, 4),),
                  (tuple(range(1, 25)),))
        row = tuple((0, x) for x in range(1, 25))
        self.assertEqual(product_of_swaps(25, row), cycle_row(25))
        self.assertEqual(parking_of(row[:23]), (1,) * 23)
        malformed(self, parking_of, (row,))
        for value in VALUES:
            if not is_parking_by_words(value):
                malformed(self, swaps_of_parking, (value,))
            if value not in ((), ((0, 1),)):
                malformed(self, parking_of, (value,))


class Swaps(unittest.TestCase):
    def test_shortest(self):
        source = random.Random(3)
        pairs = [(p, q) for d in range(5) for p in all_permutations(d) for q in all_permutations(d)]
        pairs += [(random_permutation(source, d), random_permutation(source, d)) for d in range(5, 25)]
        for p, q in pairs:
            d, row = len(p), shortest_swaps(p, q)
            self.assertTrue(is_swap_tuple(row, d))
            self.assertEqual(mul(p, product_of_swaps(d, row)), q)
            self.assertEqual(len(row), length_of(mul(inv(p), q)))

    def test_joining(self):
        source = random.Random(4)
        rows = [p for d in range(1, 6) for p in all_permutations(d)]
        rows += [random_permutation(source, d) for d in range(6, 25)] + [tuple(range(24)), cycle_row(24)]
        for p in rows:
            d, row = len(p), joining_swaps(p)
            self.assertTrue(is_swap_tuple(row, d))
            self.assertEqual(product_of_swaps(d, row), p)
            self.assertEqual(len(row), d + len(lengths(p)) - 2)
            self.assertTrue(joins_all(d, [tuple(range(d))] + [swap_row(d, *swap) for swap in row]))
        self.assertEqual(joining_swaps((0,)), ())


class Wrong(unittest.TestCase):
    def test_each_place(self):
        number = lambda value: whole(value) and 0 <= value <= 24
        from_one = lambda value: whole(value) and 1 <= value <= 24
        small = lambda value: whole(value) and value >= 0 and value <= 24
        fits = lambda value: permutation(value) and len(value) <= 24
        malformed_in_each_place(self, long_cycle, (3,), (number,))
        malformed_in_each_place(self, below_cycle, (3,), (small,))
        malformed_in_each_place(self, chain_number, (3, 2), (from_one, number))
        for function in (swap_length, crossing_of):
            malformed_in_each_place(self, function, ((1, 2, 0),), (fits,))
        malformed_in_each_place(self, joining_swaps, ((1, 2, 0),), (lambda value: fits(value) and value != (),))
        malformed_in_each_place(self, other_side, ((1, 2, 0),), (fits,))
        three = lambda value: permutation(value) and len(value) == 3
        for function in (lies_below, shortest_swaps):
            malformed_in_each_place(self, function, ((1, 2, 0), (0, 1, 2)), (three, three))
        malformed_in_each_place(self, parting_number, ((2, 1),), (lambda value: partition(value) and sum(value) < 25,))

    def test_bounds(self):
        great = tuple(range(25))
        for function in (swap_length, crossing_of, other_side, joining_swaps):
            malformed(self, function, (great,), ((0, 0),), ([1, 0],), ((True, 0),))
            function(tuple(range(24)))
        for function in (lies_below, shortest_swaps):
            malformed(self, function, (great, great), ((0, 1), (0, 1, 2)), ((0, 1), [0, 1]), ((0, 1), (0, True)))
            function(tuple(range(24)), cycle_row(24))
            function((), ())
        malformed(self, long_cycle, (25,), (-1,), (True,))
        malformed(self, below_cycle, (25,), (-1,), (None,))
        malformed(self, chain_number, (0, 1), (25, 1), (1, 25), (1, -1), (True, 1), (1, True))
        malformed(self, parting_number, ((25,),), ((1,) * 25,), ((1, 2),), ((10 ** 60,),))
        malformed(self, joining_swaps, ((),))
        malformed(self, other_side, ((2, 0, 1),), ((2, 3, 0, 1),))
        self.assertEqual((crossing_of(()), other_side(()), below_cycle(0), swap_length((0,))), (None, (), ((),), 0))


if __name__ == "__main__":
    unittest.main()
