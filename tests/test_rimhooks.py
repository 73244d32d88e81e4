"""Points 10.1 to 10.7: characters by rim hooks, hooks, Kostka numbers, rows of numbers, invariants."""

import itertools
import random
import unittest
from fractions import Fraction
from math import factorial, prod

from branchsheets.classalgebra import class_table
from branchsheets.partitions import centralizer_order, class_size, conjugate_of, content_sum, partitions_of
from branchsheets.permgroups import group_order
from branchsheets.rimhooks import cell_row, central_number, character_rows, filling_number, hook_lengths
from branchsheets.rimhooks import invariant_number, is_character_row, kostka_number, rim_character, rim_removals
from branchsheets.rimhooks import row_parts, row_product, young_number
from helpers import ALL_24, EVEN_24, VALUES, all_permutations, cycle_row, group_list, lengths, malformed
from helpers import malformed_in_each_place, partition, partition_of, partitions_by_trying, random_systems, refused
from helpers import swap_row, system, whole

PARTS = {d: partitions_by_trying(d) for d in range(13)}
SMALL = [lam for d in range(8) for lam in PARTS[d]]


def cells_of(lam):
    return {(i, j) for i, part in enumerate(lam) for j in range(part)}


def is_rim_hook(cells):
    """True if the cells hang together and have no square of two by two."""
    if not cells:
        return False
    if any({(i, j), (i + 1, j), (i, j + 1), (i + 1, j + 1)} <= cells for i, j in cells):
        return False
    seen, waiting = set(), [min(cells)]
    while waiting:
        i, j = waiting.pop()
        if (i, j) in cells and (i, j) not in seen:
            seen.add((i, j))
            waiting += [(i + 1, j), (i - 1, j), (i, j + 1), (i, j - 1)]
    return seen == cells


def removals_by_diagram(lam, m):
    rows = []
    for rest in partitions_by_trying(sum(lam) - m) if m <= sum(lam) else []:
        gone = cells_of(lam) - cells_of(rest)
        if cells_of(rest) <= cells_of(lam) and is_rim_hook(gone):
            rows.append((rest, len({i for i, _ in gone}) - 1))
    return tuple(sorted(rows))


def character_by_recursion(lam, mu):
    """Point 10.2, with the parts as they stand."""
    if not mu:
        return 1
    return sum((-1) ** h * character_by_recursion(rest, mu[1:]) for rest, h in removals_by_diagram(lam, mu[0]))


def fillings(lam, numbers):
    """The fillings of the rows of the diagram, not descending along rows, ascending along columns."""
    cells = sorted(cells_of(lam))
    many = 0
    for row in set(itertools.permutations(numbers)):
        at = dict(zip(cells, row))
        many += all(at[i, j] >= at.get((i, j - 1), 0) and at[i, j] > at.get((i - 1, j), -1) for i, j in cells)
    return many


def numbers_of(mu):
    return [j for j, part in enumerate(mu) for _ in range(part)]


class Hooks(unittest.TestCase):
    def test_removals(self):
        for lam in SMALL:
            for m in range(1, sum(lam) + 3):
                self.assertEqual(rim_removals(lam, m), removals_by_diagram(lam, m))

    def test_great_removals(self):
        self.assertEqual(rim_removals((24,), 24), (((), 0),))
        self.assertEqual(rim_removals((1,) * 24, 24), (((), 23),))
        self.assertEqual(rim_removals((7, 5, 4, 4, 2, 1, 1), 25), ())
        self.assertEqual(rim_removals((7, 5, 4, 4, 2, 1, 1), 10 ** 60), ())
        self.assertEqual(rim_removals((), 1), ())
        lam = (7, 5, 4, 4, 2, 1, 1)
        for m in range(1, 25):
            told = rim_removals(lam, m)
            self.assertEqual(told, tuple(sorted(told)))
            lengths_told = [hook for row in hook_lengths(lam) for hook in row]
            self.assertEqual(len(told), lengths_told.count(m))
            for rest, _ in told:
                self.assertTrue(partition(rest) and sum(rest) == 24 - m)

    def test_hook_lengths(self):
        for lam in SMALL:
            cells = cells_of(lam)
            told = hook_lengths(lam)
            self.assertEqual(tuple(len(row) for row in told), lam)
            for i, j in cells:
                right = sum((i, other) in cells for other in range(j + 1, 30))
                below = sum((other, j) in cells for other in range(i + 1, 30))
                self.assertEqual(told[i][j], right + below + 1)
        self.assertEqual(hook_lengths(()), ())
        self.assertEqual(hook_lengths((24,)), (tuple(range(24, 0, -1)),))

    def test_filling_numbers(self):
        for lam in [lam for d in range(7) for lam in PARTS[d]]:
            d = sum(lam)
            self.assertEqual(filling_number(lam), fillings(lam, range(d)))
        for lam in SMALL:
            self.assertEqual(filling_number(lam), rim_character(lam, (1,) * sum(lam)))
        for d in (12, 18, 24):
            self.assertEqual(sum(filling_number(lam) ** 2 for lam in partitions_of(d)), factorial(d))


class Characters(unittest.TestCase):
    def test_characters_in_each_order(self):
        for d in range(7):
            for lam, mu in itertools.product(PARTS[d], repeat=2):
                told = rim_character(lam, mu)
                for row in set(itertools.permutations(mu)):
                    self.assertEqual(character_by_recursion(lam, row), told)

    def test_rows(self):
        for d in range(9):
            rows = character_rows(d)
            self.assertIsInstance(rows, tuple)
            for lam, row in zip(PARTS[d], rows):
                self.assertEqual(row, tuple(rim_character(lam, mu) for mu in PARTS[d]))

    def test_sums(self):
        for d in range(11):
            rows, size = character_rows(d), range(len(PARTS[d]))
            self.assertEqual(len(rows), len(PARTS[d]))
            sizes = [factorial(d) // centralizer_order(mu) for mu in PARTS[d]]
            for i, j in itertools.product(size, repeat=2):
                mean = sum(a * b * n for a, b, n in zip(rows[i], rows[j], sizes))
                self.assertEqual(mean, factorial(d) if i == j else 0)
                column = sum(row[i] * row[j] for row in rows)
                self.assertEqual(column, centralizer_order(PARTS[d][i]) if i == j else 0)

    def test_conjugates(self):
        for d in range(8):
            for lam, mu in itertools.product(PARTS[d], repeat=2):
                sign = (-1) ** (d - len(mu))
                self.assertEqual(rim_character(conjugate_of(lam), mu), sign * rim_character(lam, mu))

    def test_greatest(self):
        source = random.Random(1)
        parts = partitions_of(24)
        for lam in source.sample(parts, 12) + [(7, 5, 4, 3, 2, 1, 1, 1), (24,), (1,) * 24]:
            for mu in source.sample(parts, 3) + [(1,) * 24, (2,) * 12, (24,)]:
                told = rim_character(lam, mu)
                self.assertEqual(rim_character(conjugate_of(lam), mu), (-1) ** (24 - len(mu)) * told)
            self.assertEqual(rim_character(lam, (1,) * 24), filling_number(lam))
            hook = len(lam) < 2 or lam[1] == 1
            self.assertEqual(rim_character(lam, (24,)), (-1) ** (len(lam) - 1) if hook else 0)
            self.assertEqual(central_number(lam, (2,) + (1,) * 22), content_sum(lam))

    def test_traces(self):
        # The permutations of three sheets, moving the differences of three numbers.
        self.assertEqual(character_rows(0), ((1,),))
        self.assertEqual(character_rows(1), ((1,),))
        for p in all_permutations(4):
            fixed = sum(x == y for x, y in enumerate(p))
            self.assertEqual(rim_character((3, 1), lengths(p)), fixed - 1)


class Central(unittest.TestCase):
    def test_central_numbers(self):
        for d in range(9):
            for lam, mu in itertools.product(PARTS[d], repeat=2):
                number = Fraction(class_size(mu) * rim_character(lam, mu), rim_character(lam, (1,) * d))
                self.assertEqual(central_number(lam, mu), number)
                if d > 1 and mu[0] == 2 and sum(mu[1:]) == len(mu) - 1:
                    self.assertEqual(number, content_sum(lam))

    def test_central_numbers_multiply(self):
        for d in range(6):
            for mu in PARTS[d]:
                table = class_table(mu)
                for lam in PARTS[d]:
                    w = [central_number(lam, nu) for nu in PARTS[d]]
                    for one, row in zip(w, table):
                        product = central_number(lam, mu) * one
                        self.assertEqual(product, sum(n * value for n, value in zip(row, w)))

    def test_cell_rows(self):
        for d in range(9):
            for lam in PARTS[d]:
                told = cell_row(lam)
                self.assertEqual(len(told), d + 1)
                for q in range(-4, 8):
                    value = prod(q + j - i for i, j in cells_of(lam))
                    self.assertEqual(sum(a * q ** e for e, a in enumerate(told)), value)
                    self.assertEqual(sum(central_number(lam, mu) * q ** len(mu) for mu in PARTS[d]), value)
        lam = (6, 5, 4, 4, 2, 2, 1)
        value = prod(10 ** 9 + j - i for i, j in cells_of(lam))
        self.assertEqual(sum(a * 10 ** (9 * e) for e, a in enumerate(cell_row(lam))), value)
        self.assertEqual(cell_row(()), (1,))


class Colourings(unittest.TestCase):
    def test_kostka_numbers(self):
        for d in range(7):
            for lam, mu in itertools.product(PARTS[d], repeat=2):
                self.assertEqual(kostka_number(lam, mu), fillings(lam, numbers_of(mu)))

    def test_kostka_facts(self):
        for d in range(10):
            for lam in PARTS[d]:
                self.assertEqual(kostka_number(lam, lam), 1)
                self.assertEqual(kostka_number(lam, (1,) * d), filling_number(lam))
                for mu in PARTS[d]:
                    least = all(sum(lam[:i]) >= sum(mu[:i]) for i in range(1, d + 1))
                    self.assertIs(kostka_number(lam, mu) > 0, least)

    def test_young_numbers(self):
        for d in range(6):
            for mu, nu in itertools.product(PARTS[d], repeat=2):
                many = 0
                for colours in itertools.product(range(len(mu)), repeat=len(nu)):
                    sizes = [sum(n for n, c in zip(nu, colours) if c == j) for j in range(len(mu))]
                    many += sizes == list(mu)
                self.assertEqual(young_number(mu, nu), many)

    def test_young_numbers_are_sums(self):
        for d in range(9):
            for mu, nu in itertools.product(PARTS[d], repeat=2):
                total = sum(kostka_number(lam, mu) * rim_character(lam, nu) for lam in PARTS[d])
                self.assertEqual(young_number(mu, nu), total)

    def test_greatest(self):
        ones = (1,) * 24
        self.assertEqual(young_number(ones, ones), factorial(24))
        self.assertEqual(young_number((2,) * 12, ones), factorial(24) // 2 ** 12)
        self.assertEqual(young_number((2,) * 12, (2,) * 12), factorial(12))
        self.assertEqual(young_number(ones, (2,) + (1,) * 22), 0)
        self.assertEqual(young_number((24,), (5, 5, 5, 5, 4)), 1)
        for lam in [(8, 6, 5, 3, 1, 1), (6, 5, 4, 3, 2, 2, 1, 1), (12, 12)]:
            self.assertEqual(kostka_number(lam, ones), filling_number(lam))
            self.assertEqual(kostka_number(lam, lam), 1)


class Rows(unittest.TestCase):
    def test_products(self):
        source = random.Random(2)
        for d in range(11):
            f = tuple(source.randint(-9, 9) for _ in PARTS[d])
            g = tuple(source.randint(-9, 9) for _ in PARTS[d])
            told = row_product(f, g, d)
            total = sum(Fraction(a * b, centralizer_order(mu)) for a, b, mu in zip(f, g, PARTS[d]))
            self.assertEqual(told, (total.numerator, total.denominator))

    def test_parts(self):
        source = random.Random(3)
        for d in range(11):
            f = tuple(source.randint(-99, 99) for _ in PARTS[d])
            parts = row_parts(f, d)
            rows = character_rows(d)
            self.assertEqual(parts, tuple(row_product(f, row, d) for row in rows))
            total = [sum(Fraction(n, below) * row[at] for (n, below), row in zip(parts, rows)) for at in range(len(f))]
            self.assertEqual(tuple(total), f)

    def test_character_rows(self):
        source = random.Random(4)
        for d in range(8):
            rows = character_rows(d)
            for _ in range(8):
                factors = [source.randint(-1, 3) for _ in rows]
                f = tuple(sum(n * row[at] for n, row in zip(factors, rows)) for at in range(len(rows)))
                self.assertEqual(row_parts(f, d), tuple((n, 1) for n in factors))
                self.assertIs(is_character_row(f, d), all(n >= 0 for n in factors))
            # The sheets that permutations leave are a row of a character, one item more is none.
            fixed = tuple(mu.count(1) for mu in PARTS[d])
            self.assertIs(is_character_row(fixed, d), True)
            if d > 1:
                self.assertIs(is_character_row((fixed[0] + 1,) + fixed[1:], d), False)
            self.assertIs(is_character_row((0,) * len(rows), d), True)


class Invariants(unittest.TestCase):
    def test_means(self):
        for S in random_systems(5, 40, 6, 2) + [(0, ()), (0, ((),)), (1, ()), (4, ((1, 2, 3, 0),))]:
            members = group_list(S[0], S[1])
            total = 0
            for lam in PARTS[S[0]]:
                mean = Fraction(sum(character_by_recursion(lam, mu) * n for mu, n in counted(members)), len(members))
                told = invariant_number(S, lam)
                self.assertEqual(told, mean)
                self.assertTrue(whole(told) and told >= 0)
                total += filling_number(lam) * told
            self.assertEqual(total, factorial(S[0]) // len(members))

    def test_great(self):
        one = (24, (cycle_row(24),))
        lam = (6, 5, 4, 3, 3, 2, 1)
        powers = [tuple((x + k) % 24 for x in range(24)) for k in range(24)]
        mean = Fraction(sum(rim_character(lam, lengths(p)) for p in powers), 24)
        self.assertEqual(invariant_number(one, lam), mean)
        self.assertEqual(invariant_number((24, ()), lam), filling_number(lam))
        eight = (8, (cycle_row(8), swap_row(8, 0, 1)))
        self.assertEqual(group_order(eight), 40320)
        for lam in ((8,), (7, 1), (1,) * 8, (4, 2, 1, 1)):
            self.assertEqual(invariant_number(eight, lam), int(lam == (8,)))

    def test_many(self):
        nine = (9, (cycle_row(9), swap_row(9, 0, 1)))
        refused(self, "many", invariant_number, nine, (9,))
        refused(self, "many", invariant_number, ALL_24, (24,))
        refused(self, "many", invariant_number, EVEN_24, (1,) * 24)
        malformed(self, invariant_number, (nine, (8,)), (ALL_24, (23,)), (nine, [9]), (None, (9,)))


def counted(members):
    counts = {}
    for p in members:
        counts[lengths(p)] = counts.get(lengths(p), 0) + 1
    return counts.items()


class Wrong(unittest.TestCase):
    def test_each_place(self):
        from_one = lambda value: whole(value) and value > 0
        malformed_in_each_place(self, rim_removals, ((2, 1), 2), (partition, from_one))
        for function in (hook_lengths, filling_number, cell_row):
            malformed_in_each_place(self, function, ((2, 1),), (partition,))
        for function in (rim_character, central_number, kostka_number, young_number):
            malformed_in_each_place(self, function, ((2, 1), (3,)), (partition_of(3),) * 2)
        number = lambda value: whole(value) and value >= 0
        malformed_in_each_place(self, character_rows, (3,), (number,))
        row_3 = lambda value: isinstance(value, tuple) and len(value) == 3 and all(whole(n) for n in value)
        # A class row is asked for where d is at most 10.
        three = lambda value: whole(value) and (value == 3 or value > 10)
        malformed_in_each_place(self, row_product, ((1, 2, 3), (0, 1, 0), 3), (row_3, row_3, three))
        for function in (row_parts, is_character_row):
            malformed_in_each_place(self, function, ((1, 2, 3), 3), (row_3, three))
        fits = lambda value: system(value) and value[0] == 2
        malformed_in_each_place(self, invariant_number, ((2, ((1, 0),)), (1, 1)), (fits, partition_of(2)))

    def test_unlike_sums(self):
        for function in (rim_character, central_number, kostka_number, young_number):
            malformed(self, function, ((3,), (2,)), ((2,), (3,)), ((), (1,)), ((25,), (24,)), ((1, 2), (2, 1)))
        malformed(self, row_product, ((1, 2, 3), (1, 2), 3), ((1, 2), (1, 2, 3), 3), ((1, 2), (1, 2), 3))
        malformed(self, rim_removals, ((3,), 0), ((3,), -1), ((3,), True), ((25,), 0))

    def test_large(self):
        for lam in ((25,), (1,) * 25, (10 ** 60,), (20, 5)):
            refused(self, "large", rim_removals, lam, 1)
            for function in (hook_lengths, filling_number, cell_row):
                refused(self, "large", function, lam)
            for function in (rim_character, central_number, kostka_number, young_number):
                refused(self, "large", function, lam, lam)
        for d in (11, 24, 10 ** 60):
            refused(self, "large", character_rows, d)
            refused(self, "large", row_product, (1,), (2,), d)
            refused(self, "large", row_parts, (1,), d)
            refused(self, "large", is_character_row, (), d)
        for value in VALUES:
            if not (whole(value) and value >= 0):
                malformed(self, row_parts, ((1,), value))


if __name__ == "__main__":
    unittest.main()
