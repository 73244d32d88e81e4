"""Points 17.1 and 17.6 to 17.8: the judges of braids, walks and graphs."""

import itertools
import random
import unittest
from fractions import Fraction
from math import factorial

from branchsheets.braids import braided_row
from branchsheets.movejudges import takes_braid, takes_graphs, takes_walk
from branchsheets.movepapers import braid_paper, graphs_paper, walk_paper
from branchsheets.walkgraphs import graph_weight, walk_graphs
from helpers import VALUES, all_swaps, lengths, malformed, mul, of_type, partition, partition_of, partitions_by_trying
from helpers import product_by_walking, refused, swap_row, whole
from judging import ahead_of_papers, form, integers, judged, misfits, same, strangers_judged
from swaprows import counts_of, is_swap_row, parts_of

PARTS = {d: partitions_by_trying(d) for d in range(13)}
FOUR = ((1, 0, 2), (1, 0, 2), (2, 1, 0), (2, 1, 0))


def moved(row, word):
    row = list(row)
    for i in word:
        at = abs(i) - 1
        p, q = row[at], row[at + 1]
        row[at:at + 2] = [q, mul(mul(q, p), q)] if i > 0 else [mul(mul(p, q), p), p]
    return tuple(row)


def braid_by_words(one, two, paper):
    """Point 17.6."""
    d = len(one[0])
    if same(paper, ("product",)):
        return product_by_walking(d, one) != product_by_walking(d, two)
    if same(paper, ("parts",)):
        return parts_of(one) != parts_of(two)
    if same(paper, ("counts",)):
        return parts_of(one) == parts_of(two) and counts_of(one) != counts_of(two)
    if form(paper, "braid", 1) and integers(paper[1]):
        return all(0 < abs(i) < len(one) for i in paper[1]) and moved(one, paper[1]) == two
    return False


class Braids(unittest.TestCase):
    def check(self, one, two, seed=0):
        paper = braid_paper(one, two)
        judged(self, takes_braid, braid_by_words, (one, two), paper, seed, 12)
        kinds = [("product",), ("parts",), ("counts",)]
        others = [takes_braid(one, two, kind) for kind in kinds]
        self.assertEqual(others, [braid_by_words(one, two, kind) for kind in kinds])
        # Exactly the first kind, or some of the others.
        self.assertIs(paper[0] == "braid", not any(others))

    def test_small(self):
        for d, r in ((2, 3), (3, 2), (3, 3), (4, 3)):
            rows = list(itertools.product(all_swaps(d), repeat=r))
            for seed, (one, two) in enumerate(itertools.product(rows[::4], rows[::5])):
                self.check(one, two, seed)

    def test_all_short_words(self):
        one = ((1, 0, 2), (0, 2, 1), (2, 1, 0))
        words = [w for n in range(4) for w in itertools.product((1, -1, 2, -2), repeat=n)]
        for two in {moved(one, w) for w in words} | {FOUR[1:]}:
            for w in words:
                self.assertIs(takes_braid(one, two, ("braid", w)), moved(one, w) == two)

    def test_great(self):
        source = random.Random(1)
        for _ in range(20):
            d = source.randint(3, 12)
            one = tuple(swap_row(d, *source.sample(range(d), 2)) for _ in range(16))
            w = tuple(source.choice([1, -1]) * source.randint(1, 15) for _ in range(300))
            two = braided_row(one, w)
            self.assertIs(takes_braid(one, two, ("braid", w)), True)
            self.assertIs(takes_braid(one, two, ("braid", w + (16,))), False)
            self.assertIs(takes_braid(one, two, ("braid", w + (0,))), False)
            self.assertIs(takes_braid(one, two, ("braid", list(w))), False)
            for other in (w[:-1], w[1:], w[::-1], w + (1,)):
                self.assertIs(takes_braid(one, two, ("braid", other)), moved(one, other) == two)
            self.check(one, two)
        # Point 17.6 tells no greatest length of a word.
        self.assertIs(takes_braid(FOUR, FOUR, ("braid", (1, -1) * 25000)), True)

    def test_one_swap(self):
        row = ((1, 0),)
        self.assertIs(takes_braid(row, row, ("braid", ())), True)
        for w in ((1,), (-1,), (0,), (True,)):
            self.assertIs(takes_braid(row, row, ("braid", w)), False)

    def test_strangers(self):
        for two in (FOUR, FOUR[::-1], ((0, 2, 1),) * 4, ((1, 0, 2),) * 4):
            strangers_judged(self, takes_braid, braid_by_words, (FOUR, two))

    def test_malformed(self):
        fits = lambda value: is_swap_row(value) and len(value) == 4 and len(value[0]) == 3
        ahead_of_papers(self, takes_braid, (FOUR, FOUR), (fits, fits))
        unit = ((0, 1, 2),)
        for paper in (("braid", ()), ("product",), None):
            malformed(self, takes_braid, (FOUR, FOUR[:3], paper), (FOUR[:1], ((1, 0),), paper), ((), (), paper),
                      (unit, unit, paper), (list(FOUR), FOUR, paper), (FOUR * 5, FOUR * 5, paper),
                      ((swap_row(13, 0, 1),), (swap_row(13, 0, 1),), paper))


def types_by_swaps(mu):
    """The types behind a swap, by trying all swaps."""
    p = of_type_row(mu)
    return {lengths(mul(p, t)) for t in all_swaps(len(p))}


def of_type_row(mu):
    """Some permutation of a type."""
    row = []
    for part in mu:
        start = len(row)
        row.extend([start + (i + 1) % part for i in range(part)])
    return tuple(row)


def shares(mu, nu):
    """The greatest number of shares of a common cut, by trying all bundles of the first parts."""
    if not mu:
        return 0
    best = 0
    for n in range(1, len(mu) + 1):
        for one in itertools.combinations(range(1, len(mu)), n - 1):
            total = mu[0] + sum(mu[i] for i in one)
            for m in range(1, len(nu) + 1):
                for two in itertools.combinations(range(len(nu)), m):
                    if sum(nu[i] for i in two) == total:
                        left = tuple(mu[i] for i in range(1, len(mu)) if i not in one)
                        rest = tuple(nu[i] for i in range(len(nu)) if i not in two)
                        best = max(best, 1 + shares(left, rest))
    return best


def walk_by_words(mu, nu, r, paper):
    """Point 17.7."""
    ends = len(mu) + len(nu)
    if same(paper, ("odd",)):
        return (r + ends) % 2 == 1
    if same(paper, ("still",)):
        return sum(mu) in (0, 1) and r >= 1
    if form(paper, "short", 1):
        k = shares(mu, nu)
        return same(paper[1], k) and r < ends - 2 * k
    if form(paper, "walk", 1) and isinstance(paper[1], tuple) and len(paper[1]) == r + 1:
        types = paper[1]
        if not all(partition(lam) and sum(lam) == sum(mu) for lam in types):
            return False
        return (types[0], types[-1]) == (mu, nu) and all(b in types_by_swaps(a) for a, b in zip(types, types[1:]))
    return False


class Walks(unittest.TestCase):
    def test_types(self):
        for d in range(6):
            for mu in PARTS[d]:
                self.assertEqual(lengths(of_type_row(mu)), mu)

    def test_papers(self):
        for d in range(6):
            for seed, (mu, nu) in enumerate(itertools.product(PARTS[d], repeat=2)):
                for r in range(6):
                    paper = walk_paper(mu, nu, r)
                    judged(self, takes_walk, walk_by_words, (mu, nu, r), paper, seed, 8)
                    kinds = [("odd",), ("still",)] + [("short", k) for k in range(-1, d + 2)]
                    others = [takes_walk(mu, nu, r, kind) for kind in kinds]
                    self.assertEqual(others, [walk_by_words(mu, nu, r, kind) for kind in kinds])
                    self.assertIs(paper[0] == "walk", not any(others))

    def test_all_walks(self):
        for d, r in ((2, 3), (3, 3), (4, 2)):
            for types in itertools.product(PARTS[d], repeat=r + 1):
                for mu, nu in ((types[0], types[-1]), (PARTS[d][0], types[-1]), (types[0], PARTS[d][-1])):
                    told = walk_by_words(mu, nu, r, ("walk", types))
                    self.assertIs(takes_walk(mu, nu, r, ("walk", types)), told)
                    self.assertIs(takes_walk(mu, nu, r + 1, ("walk", types)), False)

    def test_edges(self):
        self.assertIs(takes_walk((1,), (1,), 0, ("walk", ((1,),))), True)
        self.assertIs(takes_walk((1,), (1,), 0, ("walk", ((True,),))), False)
        self.assertIs(takes_walk((), (), 0, ("walk", ((),))), True)
        self.assertIs(takes_walk((), (), 0, ("still",)), False)
        self.assertIs(takes_walk((), (), 30, ("still",)), True)
        self.assertIs(takes_walk((1,), (1,), 1, ("still",)), True)
        self.assertIs(takes_walk((1, 1), (1, 1), 1, ("still",)), False)
        self.assertIs(takes_walk((12,), (1,) * 12, 9, ("short", 1)), True)
        self.assertIs(takes_walk((12,), (1,) * 12, 9, ("short", True)), False)
        self.assertIs(takes_walk((12,), (1,) * 12, 11, ("short", 1)), False)
        long = walk_paper((12,), (6, 5, 1), 30)
        self.assertIs(takes_walk((12,), (6, 5, 1), 30, long), True)
        self.assertIs(takes_walk((12,), (6, 5, 1), 28, long), False)

    def test_strangers(self):
        for args in (((2, 1), (2, 1), 0), ((2, 1), (3,), 1), ((1,), (1,), 1), ((3, 2), (4, 1), 0)):
            strangers_judged(self, takes_walk, walk_by_words, args)

    def test_errors(self):
        number = lambda value: whole(value) and value >= 0
        small = lambda value: whole(value) and 0 <= value <= 30
        self.assertTrue(any(number(value) and not small(value) for value in VALUES))
        ahead_of_papers(self, takes_walk, ((2, 1), (3,), 1), (partition_of(3), partition_of(3), number))
        refused(self, "large", takes_walk, (13,), (13,), 0, ("walk", ((13,),)))
        refused(self, "large", takes_walk, (2, 1), (3,), 31, None)
        malformed(self, takes_walk, ((13,), (12,), 0, None), ((13,), (13,), -1, None), ((2, 1), (2,), 31, ("odd",)))


def graph_drawn(a, swaps):
    """The graph that a permutation and swaps draw (point 13.2), by following cycles as sets."""
    def cycles(p):
        found = set()
        for x in range(len(p)):
            cycle, y = {x}, p[x]
            while y != x:
                cycle.add(y)
                y = p[y]
            found.add(frozenset(cycle))
        return found

    begun = {cycle: 0 for cycle in cycles(a)}
    edges = []
    for at, t in enumerate(swaps, 1):
        moved_sheets = {x for x, y in enumerate(t) if x != y}
        a = mul(a, t)
        for cycle in [cycle for cycle in begun if cycle & moved_sheets]:
            edges.append((begun.pop(cycle), at, len(cycle)))
        begun.update({cycle: at for cycle in cycles(a) if cycle & moved_sheets})
    edges.extend((u, len(swaps) + 1, len(cycle)) for cycle, u in begun.items())
    return tuple(sorted(edges))


def told_graphs(mu, nu, r):
    """The only paper that is accepted, by drawing all tuples (points 13.2, 13.3)."""
    counts = {}
    d = sum(mu)
    for a in of_type(mu):
        for swaps in itertools.product(all_swaps(d), repeat=r):
            if lengths(product_by_walking(d, (a,) + swaps)) == nu:
                graph = graph_drawn(a, swaps)
                counts[graph] = counts.get(graph, 0) + 1
    total = Fraction(sum(counts.values()), factorial(d))
    return ("graphs", (total.numerator, total.denominator), tuple(sorted(counts)))


class Graphs(unittest.TestCase):
    def test_papers(self):
        for d, most in ((0, 2), (1, 2), (2, 4), (3, 3), (4, 2)):
            for seed, (mu, nu) in enumerate(itertools.product(PARTS[d], repeat=2)):
                for r in range(most + 1):
                    told = told_graphs(mu, nu, r)
                    self.assertEqual(graphs_paper(mu, nu, r), told)
                    by_words = lambda *args: same(args[-1], told)
                    judged(self, takes_graphs, by_words, (mu, nu, r), told, seed, 15)

    def test_lists_of_graphs(self):
        source = random.Random(3)
        for mu, nu, r in (((2, 1), (2, 1), 4), ((3,), (1, 1, 1), 4), ((2, 2), (3, 1), 4), ((2, 1, 1), (4,), 4)):
            _, c, graphs = graphs_paper(mu, nu, r)
            self.assertIs(takes_graphs(mu, nu, r, ("graphs", c, graphs)), True)
            for _ in range(20):
                at, other = source.sample(range(len(graphs)), 2) if len(graphs) > 1 else (0, 0)
                row = list(graphs)
                row[at], row[other] = row[other], row[at]
                stranger = source.choice(walk_graphs(nu, mu, r) + walk_graphs(mu, mu, r) + ((), ((0, 1, 1),)))
                for wrong in (graphs[:at] + graphs[at + 1:], graphs[:at + 1] + graphs[at:], tuple(row),
                              graphs[:at] + (stranger,) + graphs[at + 1:], graphs + (stranger,), list(graphs),
                              graphs[:at] + (list(graphs[at]),) + graphs[at + 1:],
                              graphs[:at] + (graphs[at][::-1],) + graphs[at + 1:]):
                    if not same(wrong, graphs):
                        self.assertIs(takes_graphs(mu, nu, r, ("graphs", c, wrong)), False)
            for wrong in ((c[0] + 1, c[1]), (2 * c[0], 2 * c[1]), (-c[0], c[1]), (0, 1), c[0], list(c), None):
                self.assertIs(takes_graphs(mu, nu, r, ("graphs", wrong, graphs)), False)

    def test_a_sum_that_fits_less(self):
        # The weights of the graphs that are left do not add up to the double number, whatever c says.
        _, c, graphs = graphs_paper((2, 1), (2, 1), 2)
        self.assertEqual((c, len(graphs)), ((9, 2), 3))
        weights = [Fraction(*graph_weight(graph, 2)) for graph in graphs]
        for at in range(3):
            left = sum(weights) - weights[at]
            for told in (c, (left.numerator, left.denominator)):
                self.assertIs(takes_graphs((2, 1), (2, 1), 2, ("graphs", told, graphs[:at] + graphs[at + 1:])), False)

    def test_graphs_of_other_types(self):
        # Each of these has the weight 1/2, that of the only graph with these types.
        graph, pair = ((0, 1, 2),), ((0, 1, 1), (0, 1, 1))
        for mu, told, wrong in (((2,), graph, pair), ((1, 1), pair, graph)):
            self.assertIs(takes_graphs(mu, mu, 0, ("graphs", (1, 2), (told,))), True)
            self.assertIs(takes_graphs(mu, mu, 0, ("graphs", (1, 2), (wrong,))), False)

    def test_greatest(self):
        for mu, nu, r in (((4,), (4,), 10), ((5,), (1,) * 5, 8), ((2, 1), (1, 1, 1), 11)):
            paper = graphs_paper(mu, nu, r)
            self.assertIs(takes_graphs(mu, nu, r, paper), True)
            self.assertIs(takes_graphs(mu, nu, r, paper[:2] + (paper[2][1:],)), False)
        small = graphs_paper((2,), (2,), 2)
        for other in misfits(small):
            self.assertIs(takes_graphs((2,), (2,), 2, other), False)

    def test_strangers(self):
        for args in (((2,), (2,), 2), ((2,), (2,), 1), ((), (), 0)):
            told = told_graphs(*args)
            strangers_judged(self, takes_graphs, lambda *row: same(row[-1], told), args)

    def test_errors(self):
        number = lambda value: whole(value) and value >= 0
        ahead_of_papers(self, takes_graphs, ((2, 1), (3,), 1), (partition_of(3), partition_of(3), number))
        refused(self, "large", takes_graphs, (13,), (13,), 0, None)
        refused(self, "large", takes_graphs, (2, 1), (3,), 13, ("graphs", (0, 1), ()))
        # The maker raises Refused("many") here, the judge never.
        refused(self, "many", graphs_paper, (12,), (12,), 12)
        self.assertIs(takes_graphs((12,), (12,), 12, ("graphs", (0, 1), ())), False)
        malformed(self, takes_graphs, ((13,), (12,), 0, None), ((13,), (13,), -1, ()), ((2, 1), (2,), 13, None))


if __name__ == "__main__":
    unittest.main()
