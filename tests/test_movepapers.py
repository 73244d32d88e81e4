"""Points 17.6 to 17.8, as far as papers are made: braids, walks and graphs."""

import itertools
import random
import unittest
from fractions import Fraction

from branchsheets.braids import braided_row
from branchsheets.cutjoin import double_number, is_type_walk, move_number, share_number
from branchsheets.movepapers import braid_paper, graphs_paper, walk_paper
from branchsheets.walkgraphs import graph_types, graph_weight, is_walk_graph
from helpers import VALUES, all_swaps, malformed, malformed_in_each_place, mul, partition_of, partitions_by_trying
from helpers import product_by_walking, refused, swap_row, whole
from swaprows import counts_of, is_swap_row, parts_of

PARTS = {d: partitions_by_trying(d) for d in range(13)}
FOUR = ((1, 0, 2), (1, 0, 2), (2, 1, 0), (2, 1, 0))


def kinds_of_braid(one, two, paper):
    """True if the paper holds by the words of point 17.6."""
    d = len(one[0])
    if paper == ("product",):
        return product_by_walking(d, one) != product_by_walking(d, two)
    if paper == ("parts",):
        return parts_of(one) != parts_of(two)
    if paper == ("counts",):
        return parts_of(one) == parts_of(two) and counts_of(one) != counts_of(two)
    head, word = paper
    assert head == "braid" and isinstance(word, tuple) and len(word) <= 40000
    row = list(one)
    for i in word:
        at = abs(i) - 1
        p, q = row[at], row[at + 1]
        row[at:at + 2] = [q, mul(mul(q, p), q)] if i > 0 else [mul(mul(p, q), p), p]
    return tuple(row) == two


class Braids(unittest.TestCase):
    def check(self, one, two):
        paper = braid_paper(one, two)
        self.assertTrue(isinstance(paper, tuple) and kinds_of_braid(one, two, paper), (one, two, paper))
        others = [kind for kind in (("product",), ("parts",), ("counts",)) if kinds_of_braid(one, two, kind)]
        self.assertIs(paper[0] == "braid", others == [])
        return paper

    def test_small(self):
        for d, r in ((2, 3), (3, 2), (3, 3), (4, 3)):
            rows = list(itertools.product(all_swaps(d), repeat=r))
            for one, two in itertools.product(rows[::3], rows[::5]):
                self.check(one, two)

    def test_each_kind(self):
        a, b, c = (1, 0, 2, 3), (0, 1, 3, 2), (0, 2, 1, 3)
        self.assertEqual(self.check((a, b), (b, c)), ("product",))
        self.assertEqual(self.check((a, a, b, b), (a, a, c, c)), ("parts",))
        self.assertEqual(self.check((a, a, a, b), (a, b, b, b)), ("counts",))
        self.assertEqual(self.check((a, b), (b, a))[0], "braid")
        self.assertEqual(self.check((a,), (a,)), ("braid", ()))

    def test_greatest(self):
        source = random.Random(1)
        for _ in range(40):
            d = source.randint(3, 12)
            one = tuple(swap_row(d, *source.sample(range(d), 2)) for _ in range(16))
            word = tuple(source.choice([1, -1]) * source.randint(1, 15) for _ in range(300))
            self.assertEqual(self.check(one, braided_row(one, word))[0], "braid")

    def test_wrong(self):
        like_four = lambda value: is_swap_row(value) and len(value) == 4 and len(value[0]) == 3
        malformed_in_each_place(self, braid_paper, (FOUR, FOUR), (like_four, like_four))
        malformed(self, braid_paper, (FOUR, FOUR[:3]), (FOUR[:3], FOUR), (FOUR[:1], ((1, 0),)), ((), ()),
                  (((0, 1, 2),), ((0, 1, 2),)), (list(FOUR), FOUR), (FOUR * 5, FOUR * 5),
                  ((swap_row(13, 0, 1),), (swap_row(13, 0, 1),)))


class Walks(unittest.TestCase):
    def holds(self, mu, nu, r, paper):
        """Point 17.7."""
        ends = len(mu) + len(nu)
        if paper == ("odd",):
            return (r + ends) % 2 == 1
        if paper == ("still",):
            return sum(mu) < 2 and r > 0
        if paper[0] == "short":
            return paper == ("short", share_number(mu, nu)) and r < ends - 2 * paper[1]
        head, types = paper
        return (head == "walk" and len(types) == r + 1 and (types[0], types[-1]) == (mu, nu)
                and all(move_number(types[i], types[i + 1]) > 0 for i in range(r)))

    def test_papers(self):
        kinds = set()
        for d in range(7):
            for mu, nu in itertools.product(PARTS[d], repeat=2):
                for r in range(8):
                    paper = walk_paper(mu, nu, r)
                    self.assertTrue(self.holds(mu, nu, r, paper), (mu, nu, r, paper))
                    self.assertIs(paper[0] == "walk", Fraction(*double_number(mu, nu, r)) > 0)
                    kinds.add(paper[0])
        self.assertEqual(kinds, {"walk", "odd", "short", "still"})

    def test_told(self):
        self.assertEqual(walk_paper((3, 2), (4, 1), 0), ("short", 1))
        self.assertEqual(walk_paper((3, 2), (4, 1), 1), ("odd",))
        self.assertEqual(walk_paper((3, 2), (4, 1), 2)[0], "walk")
        self.assertEqual(walk_paper((1,), (1,), 2), ("still",))
        self.assertEqual(walk_paper((), (), 30), ("still",))
        self.assertEqual(walk_paper((), (), 0), ("walk", ((),)))
        for r in (29, 30):
            paper = walk_paper((12,), (6, 5, 1), r)
            self.assertTrue(self.holds((12,), (6, 5, 1), r, paper))
            self.assertEqual(paper[0], "odd" if r == 29 else "walk")
            self.assertTrue(r == 29 or is_type_walk(paper[1], (12,), (6, 5, 1)))

    def test_wrong(self):
        number = lambda value: whole(value) and value >= 0
        three = partition_of(3)
        malformed_in_each_place(self, walk_paper, ((2, 1), (3,), 1), (three, three, number))
        refused(self, "large", walk_paper, (13,), (13,), 0)
        refused(self, "large", walk_paper, (2, 1), (3,), 31)
        malformed(self, walk_paper, ((13,), (12,), 0), ((13,), (13,), -1), ((2, 1), (2,), 31))


class Graphs(unittest.TestCase):
    def test_papers(self):
        for d in range(6):
            for mu, nu in itertools.product(PARTS[d], repeat=2):
                for r in range(5):
                    paper = graphs_paper(mu, nu, r)
                    self.assertTrue(isinstance(paper, tuple) and len(paper) == 3 and paper[0] == "graphs")
                    _, c, graphs = paper
                    # Point 17.8.
                    self.assertEqual(graphs, tuple(sorted(set(graphs))))
                    self.assertTrue(all(is_walk_graph(graph, r) for graph in graphs))
                    self.assertTrue(all(graph_types(graph, r) == (mu, nu) for graph in graphs))
                    total = sum(Fraction(*graph_weight(graph, r)) for graph in graphs)
                    self.assertEqual(c, (total.numerator, total.denominator) if graphs else (0, 1))
                    self.assertEqual(c, double_number(mu, nu, r))

    def test_told(self):
        graph = ((0, 1, 2), (1, 2, 1), (1, 2, 1), (2, 3, 2))
        self.assertEqual(graphs_paper((2,), (2,), 2), ("graphs", (1, 2), (graph,)))
        self.assertEqual(graphs_paper((2,), (2,), 1), ("graphs", (0, 1), ()))
        self.assertEqual(graphs_paper((), (), 0), ("graphs", (1, 1), ((),)))
        _, c, graphs = graphs_paper((2, 1), (3,), 11)
        self.assertEqual(c, double_number((2, 1), (3,), 11))
        self.assertTrue(len(graphs) > 10)

    def test_wrong(self):
        number = lambda value: whole(value) and value >= 0
        three = partition_of(3)
        malformed_in_each_place(self, graphs_paper, ((2, 1), (3,), 1), (three, three, number))
        refused(self, "large", graphs_paper, (13,), (13,), 0)
        refused(self, "large", graphs_paper, (2, 1), (3,), 13)
        refused(self, "many", graphs_paper, (12,), (12,), 12)
        malformed(self, graphs_paper, ((13,), (12,), 0), ((13,), (13,), -1), ((2, 1), (2,), 13))
        for value in VALUES:
            malformed(self, graphs_paper, (value, None, 0), (None, value, 13))


if __name__ == "__main__":
    unittest.main()
