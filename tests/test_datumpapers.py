"""Points 17.1 and 17.20 to 17.22: papers of data, of joining swaps and of what lies below the long cycle."""

import itertools
import random
import unittest

from branchsheets.coverings import cover_number
from branchsheets.cyclefactors import lies_below, long_cycle
from branchsheets.datumjudges import takes_below, takes_datum, takes_joining
from branchsheets.datumpapers import below_paper, datum_paper, joining_paper
from helpers import all_permutations, all_swaps, cycle_row, inv, joins_all, lengths, malformed, malformed_in_each_place
from helpers import mul, of_type, partition, partitions_by_trying, permutation, product_by_walking, random_permutation
from helpers import rows_by_walking, swap_row, whole
from judging import ahead_of_papers, form, integers, judged, misfits, same, spoiled, strangers_judged

PARTS = {d: partitions_by_trying(d) for d in range(1, 9)}
TWICE = ((2, 1), (2, 1))


def row_times_class(row, mu):
    """The product of a class row and that of a partition, by permutations."""
    d = sum(mu)
    weight = dict(zip(PARTS[d], row))
    # The item at lam: over all q of the type mu, the weight of what q makes of one permutation of the type lam.
    product = []
    for lam in PARTS[d]:
        r = of_type(lam)[0]
        product.append(sum(weight[lengths(mul(r, inv(q)))] for q in of_type(mu)))
    return tuple(product)


def rows_by_hand(d, data):
    rows = [tuple(int(lam == (1,) * d) for lam in PARTS[d])]
    for mu in data:
        rows.append(row_times_class(rows[-1], mu))
    return tuple(rows)


def datum_by_words(d, data, paper):
    """Point 17.20."""
    if same(paper, ("odd",)):
        return sum(d - len(mu) for mu in data) % 2 == 1
    if form(paper, "rows", 1):
        told = rows_by_hand(d, data)
        return same(paper[1], told) and told[-1][PARTS[d].index((1,) * d)] == 0
    if form(paper, "system", 1):
        perms = paper[1]
        if not (isinstance(perms, tuple) and all(permutation(p) and len(p) == d for p in perms)):
            return False
        return tuple(map(lengths, perms)) == data and product_by_walking(d, perms) == tuple(range(d))
    return False


class Data(unittest.TestCase):
    def check(self, d, data, seed, many=10):
        paper = datum_paper(d, data)
        judged(self, takes_datum, datum_by_words, (d, data), paper, seed, many)
        number = cover_number(0, d, data)
        told = rows_by_hand(d, data)
        is_odd = sum(d - len(mu) for mu in data) % 2 == 1
        # Papers of the first kind or of the third one, never both; one of the second kind only beside the third.
        self.assertIs(takes_datum(d, data, ("rows", told)), number == 0)
        self.assertIs(takes_datum(d, data, ("odd",)), is_odd)
        self.assertEqual(paper[0], "system" if number else "odd" if is_odd else "rows")
        self.assertFalse(number and is_odd)
        return paper[0]

    def test_small(self):
        kinds = set()
        for d, most in ((1, 6), (2, 6), (3, 4), (4, 3)):
            for k in range(most + 1):
                for seed, data in enumerate(itertools.product(PARTS[d], repeat=k)):
                    if len(PARTS[d]) ** k < 60 or seed % 5 == 0:
                        kinds.add(self.check(d, data, seed, 5))
        self.assertEqual(kinds, {"system", "odd", "rows"})

    def test_systems_are_those_that_are_walked(self):
        for d, data in ((3, ((2, 1), (2, 1))), (3, ((3,), (2, 1), (2, 1))), (4, ((2, 2), (3, 1)))):
            walked = set(rows_by_walking(0, d, [of_type(mu) for mu in data]))
            for perms in itertools.product(all_permutations(d), repeat=len(data)):
                self.assertIs(takes_datum(d, data, ("system", perms)), perms in walked)

    def test_great(self):
        source = random.Random(31)
        for d in range(5, 9):
            for seed in range(8 if d < 8 else 4):
                data = tuple(source.choice(PARTS[d]) for _ in range(source.randint(0, 6)))
                paper = datum_paper(d, data)
                self.assertIs(takes_datum(d, data, paper), True)
                self.assertEqual(paper[0] == "system", cover_number(0, d, data) > 0)
                for _ in range(3):
                    other = spoiled(source, paper)
                    if other[:1] != ("rows",):
                        self.assertIs(takes_datum(d, data, other), datum_by_words(d, data, other))
        # Two partitions that are unlike make no cover.
        for d in range(4, 9):
            data = ((d - 1, 1), (d - 2, 2))
            paper = datum_paper(d, data)
            self.assertEqual(paper[0], "rows")
            self.assertIs(takes_datum(d, data, paper), True)
            rows = paper[1]
            for wrong in (rows[:-1], rows + rows[-1:], rows[::-1], rows[:1] + rows[2:] + rows[1:2], list(rows), rows[1:],
                          rows[:2] + (rows[2][:-1] + (rows[2][-1] + 1,),), rows[:2] + (rows[2] + (0,),),
                          (rows[0][1:] + rows[0][:1],) + rows[1:], tuple((True,) + row[1:] for row in rows)):
                self.assertIs(takes_datum(d, data, ("rows", wrong)), False)
        self.assertEqual(datum_paper(8, ((8,),) * 6)[0], "system")
        self.assertEqual(datum_paper(8, ((8,),) * 5), ("odd",))

    def test_told(self):
        self.assertIs(takes_datum(3, TWICE + ((2, 1),), ("odd",)), True)
        self.assertIs(takes_datum(2, ((2,), (2,)), ("system", ((1, 0), (1, 0)))), True)
        self.assertIs(takes_datum(2, ((2,), (2,)), ("system", ((True, 0), (1, 0)))), False)
        self.assertIs(takes_datum(2, ((2,), (1, 1)), ("system", ((1, 0), (1, 0)))), False)
        self.assertEqual(datum_paper(1, ()), ("system", ()))
        self.assertEqual(datum_paper(5, ()), ("system", ()))
        rows = datum_paper(4, ((2, 2), (3, 1)))
        for other in misfits(rows):
            self.assertIs(takes_datum(4, ((2, 2), (3, 1)), other), False)

    def test_wrong(self):
        for d, data in ((3, TWICE), (3, ((2, 1),)), (1, ()), (3, ((3,), (1, 1, 1)))):
            strangers_judged(self, takes_datum, datum_by_words, (d, data))
        three = lambda value: isinstance(value, tuple) and len(value) <= 6 and all(
            partition(mu) and sum(mu) == 3 for mu in value)
        fits = (lambda value: whole(value) and value == 3, three)
        malformed_in_each_place(self, datum_paper, (3, TWICE), fits)
        ahead_of_papers(self, takes_datum, (3, TWICE), fits)
        for d, data in ((0, ()), (9, ()), (9, ((9,),)), (0, ((),)), (2, ((2,),) * 7), (2, ((1,),)), (3, [(3,)]), (True, ())):
            malformed(self, datum_paper, (d, data))
            malformed(self, takes_datum, (d, data, ("odd",)), (d, data, ("system", ())))


def joining_by_words(p, r, paper):
    """Point 17.21."""
    d = len(p)
    least = d + len(lengths(p)) - 2
    if same(paper, ("short",)):
        return r < least
    if same(paper, ("odd",)):
        return (r - d - len(lengths(p))) % 2 == 1
    if form(paper, "swaps", 1) and isinstance(paper[1], tuple) and len(paper[1]) == r:
        if not all(integers(swap, 2) and 0 <= swap[0] < swap[1] < d for swap in paper[1]):
            return False
        rows = [swap_row(d, *swap) for swap in paper[1]]
        return product_by_walking(d, rows) == p and joins_all(d, rows)
    return False


class Joining(unittest.TestCase):
    def check(self, p, r, seed, many=8):
        paper = joining_paper(p, r)
        judged(self, takes_joining, joining_by_words, (p, r), paper, seed, many)
        others = [kind for kind in (("short",), ("odd",)) if takes_joining(p, r, kind)]
        self.assertEqual(others, [kind for kind in (("short",), ("odd",)) if joining_by_words(p, r, kind)])
        self.assertEqual(paper if others else paper[0], others[0] if others else "swaps")

    def test_small(self):
        for d in range(2, 6):
            for seed, p in enumerate(all_permutations(d)):
                for r in (range(11) if d < 5 else (4, 5, 8)):
                    self.check(p, r, seed, 5)

    def test_all_rows(self):
        for d, r in ((2, 1), (2, 2), (2, 3), (3, 2), (3, 3), (3, 4), (4, 3)):
            swaps = list(itertools.combinations(range(d), 2))
            for p in all_permutations(d):
                told = [row for row in itertools.product(swaps, repeat=r) if joining_by_words(p, r, ("swaps", row))]
                rows = [row for row in itertools.product(swaps, repeat=r) if takes_joining(p, r, ("swaps", row))]
                self.assertEqual(rows, told)
                # Accepted papers of the first kind are there exactly if none of the others is accepted.
                others = any(takes_joining(p, r, kind) for kind in (("short",), ("odd",)))
                self.assertIs(rows != [], not others)

    def test_great(self):
        source = random.Random(32)
        for seed in range(25):
            p = random_permutation(source, source.randint(18, 24))
            least = len(p) + len(lengths(p)) - 2
            for r in (0, least - 1, least, least + 1, least + 2, 199, 200):
                self.check(p, r, seed, 2)
        unit = tuple(range(24))
        self.assertEqual(joining_paper(unit, 45), ("short",))
        self.assertEqual(joining_paper(unit, 46)[0], "swaps")

    def test_told(self):
        self.assertIs(takes_joining((0, 1, 2), 4, ("swaps", ((0, 1), (0, 1), (1, 2), (1, 2)))), True)
        self.assertIs(takes_joining((0, 1, 2), 4, ("swaps", ((0, 1),) * 4)), False)
        self.assertIs(takes_joining((0, 1, 2), 3, ("short",)), True)
        self.assertIs(takes_joining((0, 1, 2), 3, ("odd",)), True)
        self.assertEqual(joining_paper((0, 1, 2), 3), ("short",))
        self.assertEqual(joining_paper((1, 2, 0), 3), ("odd",))
        self.assertEqual(joining_paper((1, 0), 1), ("swaps", ((0, 1),)))

    def test_wrong(self):
        for p, r in (((0, 1), 2), ((1, 0), 1), ((1, 2, 0), 1), ((1, 2, 0), 3)):
            strangers_judged(self, takes_joining, joining_by_words, (p, r))
        fits = (lambda value: permutation(value) and 2 <= len(value) <= 24, lambda value: whole(value) and 0 <= value <= 200)
        malformed_in_each_place(self, joining_paper, ((1, 2, 0), 3), fits)
        ahead_of_papers(self, takes_joining, ((1, 2, 0), 3), fits)
        for p, r in (((), 0), ((0,), 0), (cycle_row(25), 30), ((1, 0), 201), ((1, 0), -1), ((1, 0), True), ([1, 0], 1)):
            malformed(self, joining_paper, (p, r))
            malformed(self, takes_joining, (p, r, ("short",)), (p, r, ("swaps", ())))


def way(p, x, y):
    """The number of steps in which p leads x to y, or None."""
    z, n = x, 0
    while z != y:
        z, n = p[z], n + 1
        if z == x:
            return None
    return n


def below_by_words(p, paper):
    """Point 17.22."""
    d = len(p)
    if form(paper, "chain", 1) and isinstance(paper[1], tuple) and len(paper[1]) == d - 1:
        if not all(integers(swap, 2) and 0 <= swap[0] < swap[1] < d for swap in paper[1]):
            return False
        rows = [swap_row(d, *swap) for swap in paper[1]]
        first = rows[:d - len(lengths(p))]
        return product_by_walking(d, rows) == cycle_row(d) and product_by_walking(d, first) == p
    if form(paper, "cycle", 3) and integers(paper[1:]):
        x, y, z = paper[1:]
        return 0 <= x < y < z < d and None not in (way(p, x, y), way(p, x, z)) and way(p, x, z) < way(p, x, y)
    if form(paper, "crossing", 4) and integers(paper[1:]):
        x, y, z, w = paper[1:]
        return (0 <= x < y < z < w < d and way(p, x, z) is not None and way(p, y, w) is not None
                and way(p, x, y) is None)
    return False


class Below(unittest.TestCase):
    def check(self, p, seed, many=10):
        paper = below_paper(p)
        judged(self, takes_below, below_by_words, (p,), paper, seed, many)
        return paper

    def test_small(self):
        for d in range(1, 6):
            for seed, p in enumerate(all_permutations(d)):
                paper = self.check(p, seed, 6)
                cycles = [rows for rows in itertools.product(range(d), repeat=3) if takes_below(p, ("cycle",) + rows)]
                crossings = [rows for rows in itertools.combinations(range(d), 4)
                             if takes_below(p, ("crossing",) + rows)]
                self.assertEqual(cycles, [rows for rows in itertools.product(range(d), repeat=3)
                                          if below_by_words(p, ("cycle",) + rows)])
                self.assertEqual(paper[0], "cycle" if cycles else "crossing" if crossings else "chain")
                self.assertIs(paper[0] == "chain", lies_below(p, long_cycle(d)))

    def test_all_chains(self):
        for d in (1, 2, 3, 4):
            swaps = list(itertools.combinations(range(d), 2))
            for p in all_permutations(d):
                told = [row for row in itertools.product(swaps, repeat=d - 1) if below_by_words(p, ("chain", row))]
                rows = [row for row in itertools.product(swaps, repeat=d - 1) if takes_below(p, ("chain", row))]
                self.assertEqual(rows, told)
                self.assertIs(rows != [], lies_below(p, long_cycle(d)))

    def test_great(self):
        source = random.Random(33)
        for seed in range(60):
            d = source.randint(15, 24)
            self.assertNotEqual(self.check(random_permutation(source, d), seed, 3)[0], "chain")
            # Beginnings of a row of swaps with the product of the long cycle lie below it, others often cross.
            row = [swap_row(d, x, x + 1) for x in range(d - 1)][::-1]
            for _ in range(40):
                at = source.randrange(d - 2)
                row[at:at + 2] = [row[at + 1], mul(mul(row[at + 1], row[at]), row[at + 1])]
            self.assertEqual(product_by_walking(d, row), cycle_row(d))
            p = product_by_walking(d, row[:source.randint(0, d - 1)])
            self.assertEqual(self.check(p, seed, 3)[0], "chain")
        crossed = tuple((x + 2) % 24 for x in range(24))
        self.assertEqual(self.check(crossed, 0)[0], "crossing")
        self.assertEqual(self.check(inv(cycle_row(24)), 0)[0], "cycle")

    def test_told(self):
        self.assertIs(takes_below((2, 3, 0, 1), ("crossing", 0, 1, 2, 3)), True)
        self.assertIs(takes_below((1, 0, 2), ("chain", ((0, 1), (0, 2)))), True)
        self.assertIs(takes_below((1, 0, 2), ("chain", ((0, 2), (0, 1)))), False)
        self.assertIs(takes_below((2, 3, 0, 1), ("crossing", False, 1, 2, 3)), False)
        self.assertIs(takes_below((2, 3, 0, 1), ("crossing", 0, 2, 1, 3)), False)
        self.assertIs(takes_below((2, 0, 1), ("cycle", 0, 1, 2)), True)
        self.assertIs(takes_below((1, 2, 0), ("cycle", 0, 1, 2)), False)
        self.assertIs(takes_below((0,), ("chain", ())), True)
        self.assertEqual(len(all_swaps(4)), 6)

    def test_wrong(self):
        for p in ((0,), (2, 0, 1), (2, 3, 0, 1), (1, 0, 2)):
            strangers_judged(self, takes_below, below_by_words, (p,))
        fits = (lambda value: permutation(value) and 1 <= len(value) <= 24,)
        malformed_in_each_place(self, below_paper, ((1, 2, 0),), fits)
        ahead_of_papers(self, takes_below, ((1, 2, 0),), fits)
        for p in ((), cycle_row(25), (1, 1), [0], (True, 0), None):
            malformed(self, below_paper, (p,))
            malformed(self, takes_below, (p, ("chain", ())), (p, None))


if __name__ == "__main__":
    unittest.main()
