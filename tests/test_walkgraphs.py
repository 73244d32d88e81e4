"""Points 13.1 to 13.7: monodromy graphs."""

import itertools
import random
import unittest
from fractions import Fraction
from math import factorial, prod
from unittest import mock

from branchsheets import walkgraphs
from branchsheets.cutjoin import connected_double, double_number, is_type_walk
from branchsheets.partitions import centralizer_order
from branchsheets.walkgraphs import connected_sum, drawn_graph, graph_genus, graph_pieces, graph_sum, graph_turns
from branchsheets.walkgraphs import graph_types, graph_walk, graph_weight, is_walk_graph, turned_graph, walk_graphs
from helpers import VALUES, all_permutations, joins_all, lengths, malformed, malformed_in_each_place, mul
from helpers import partition_of, partitions_by_trying, permutation, random_permutation, refused, swap_row, whole

PARTS = {d: partitions_by_trying(d) for d in range(14)}
RING = ((0, 1, 2), (1, 2, 1), (1, 2, 1), (2, 3, 2))


def fraction(value):
    told = Fraction(*value)
    assert (told.numerator, told.denominator) == value and isinstance(value, tuple)
    return told


def swaps_of(d):
    return list(itertools.combinations(range(d), 2))


def is_graph_by_words(value, r):
    """Point 13.1."""
    if not isinstance(value, tuple) or list(value) != sorted(value):
        return False
    for edge in value:
        if not (isinstance(edge, tuple) and len(edge) == 3 and all(whole(n) for n in edge)):
            return False
        u, v, w = edge
        if not (0 <= u <= r and 1 <= v <= r + 1 and u < v and w >= 1):
            return False
    for x in range(1, r + 1):
        into, out = [w for _, v, w in value if v == x], [w for u, _, w in value if u == x]
        if sorted((len(into), len(out))) != [1, 2] or sum(into) != sum(out):
            return False
    return True


def graphs_by_trying(mu, nu, r):
    """All graphs of these types: ends and inner edges are matched in all ways, the weights follow."""
    found = set()

    def go(v, strands, edges):
        if v > r:
            if tuple(sorted((w for _, w in strands), reverse=True)) == nu:
                found.add(tuple(sorted(edges + [(u, r + 1, w) for u, w in strands])))
            return
        for i, (u, w) in enumerate(strands):
            rest = strands[:i] + strands[i + 1:]
            for part in range(1, w):
                go(v + 1, rest + [(v, part), (v, w - part)], edges + [(u, v, w)])
            for j in range(i, len(rest)):
                other = rest[j]
                go(v + 1, rest[:j] + rest[j + 1:] + [(v, w + other[1])], edges + [(u, v, w), other[:1] + (v, other[1])])

    go(1, [(0, w) for w in mu], [])
    return tuple(sorted(found))


def drawn_by_words(a, swaps):
    """Point 13.2: cycles as sets, each with the vertex that it comes out of."""
    d, r = len(a), len(swaps)

    def cycles(p):
        rows = set()
        for x in range(d):
            cycle, y = {x}, p[x]
            while y != x:
                cycle.add(y)
                y = p[y]
            rows.add(frozenset(cycle))
        return rows

    begun, edges, p = {cycle: 0 for cycle in cycles(a)}, [], a
    for v, (x, y) in enumerate(swaps, 1):
        p = mul(p, swap_row(d, x, y))
        ahead = cycles(p)
        for cycle in list(begun):
            if x in cycle or y in cycle:
                edges.append((begun.pop(cycle), v, len(cycle)))
        for cycle in ahead:
            if x in cycle or y in cycle:
                begun[cycle] = v
        assert set(begun) == ahead
    return tuple(sorted(edges + [(u, r + 1, len(cycle)) for cycle, u in begun.items()]))


def weight_by_words(graph, r):
    inner = [w for u, v, w in graph if u > 0 and v < r + 1]
    through = [w for u, v, w in graph if u == 0 and v == r + 1]
    return Fraction(prod(inner), prod(through) * prod(factorial(graph.count(edge)) for edge in set(graph)))


def some_graphs():
    source = random.Random(1)
    rows = [((), 0), (((0, 1, 5),), 0), (((0, 1, 2), (0, 1, 2), (0, 1, 3)), 0), (RING, 2)]
    for _ in range(60):
        d, r = source.randint(2, 8), source.randint(0, 7)
        a = random_permutation(source, d)
        rows.append((drawn_graph(a, tuple(source.choice(swaps_of(d)) for _ in range(r))), r))
    return rows


GRAPHS = some_graphs()


class Graphs(unittest.TestCase):
    def test_is_walk_graph(self):
        wrong = [RING[::-1], list(RING), RING[:3], RING + ((2, 3, 2),), RING + ((0, 3, 0),), ((0, 1, 2), (1, 2, 1)),
                 ((0, 1, 2), (1, 2, 1), (1, 2, 1), (2, 3, True)), ((0, 1, 2), (1, 2, 1), (1, 2, 2), (2, 3, 3)),
                 ((0, 1, 2), [1, 2, 1], (1, 2, 1), (2, 3, 2)), ((0, 1, 2), (1, 2, 1), (1, 2, 1), (2, 4, 2)),
                 ((0, 1, 2), (1, 2, 1), (1, 2, 1), (2, 2, 2)), ((0, 1, 2), (1, 2, 1), (1, 2, 1), (2, 3, 2, 0)),
                 ((-1, 1, 2), (1, 2, 1), (1, 2, 1), (2, 3, 2)), ((0, 1, 10 ** 60), (1, 2, 1), (1, 2, 1), (2, 3, 2)),
                 ((0, 1, 1), (0, 1, 1), (0, 1, 1), (0, 2, 2), (2, 3, 1), (2, 3, 1)),
                 ((1, 2, 1), (1, 2, 1), (1, 2, 1), (2, 3, 3)), ((0, 1, 3), (1, 2, 1), (1, 2, 1), (1, 2, 1)),
                 ((0, 1, 0),), ((0, 1, -1),), ((0, 1, 2), (0, 1, 1)), ((0, 1, 2), (1, 2, 0), (1, 2, 2), (2, 3, 2)),
                 ((0, 1, 0), (0, 1, 0), (1, 2, 0)), ((0, 1, 1), (1, 2, -1), (1, 2, 2)), ((0, 1, 2), (1, 2, 2), (1, 2, 0))]
        for r in range(4):
            for value in VALUES + wrong + [graph for graph, _ in GRAPHS]:
                try:
                    fits = is_graph_by_words(value, r)
                except TypeError:
                    fits = False
                self.assertIs(is_walk_graph(value, r), fits, (value, r))
        self.assertIs(is_walk_graph(RING, 2), True)
        self.assertIs(is_walk_graph(RING + ((2, 3, 2),), 2), False)
        self.assertIs(is_walk_graph(((0, 3, 7),) * 2 + RING, 2), False)
        self.assertIs(is_walk_graph(RING[:1] + ((0, 3, 7),) * 2 + RING[1:], 2), True)
        self.assertIs(is_walk_graph((), 0), True)
        self.assertIs(is_walk_graph((), 1), False)
        self.assertIs(is_walk_graph(((0, 1, 1), (0, 1, 1)), 0), True)
        self.assertIs(is_walk_graph(((0, 1, 1), (0, 1, True)), 0), False)

    def test_greatest(self):
        # Two sheets that are joined and cut again and again.
        graph = ((0, 1, 1), (0, 1, 1)) + tuple(edge for v in range(1, 31) for edge in
                                               ([(v, v + 1, 2)] if v % 2 else [(v, v + 1, 1)] * 2))
        self.assertIs(is_walk_graph(graph, 30), True)
        self.assertEqual(graph_genus(graph, 30), 14)
        self.assertEqual(graph_types(graph, 30), ((1, 1), (1, 1)))
        self.assertEqual(graph_turns(graph, 30), 2 ** 16)
        self.assertEqual(graph_weight(graph, 30), (1, 2))
        self.assertEqual(turned_graph(graph, 30), graph)
        self.assertEqual(drawn_graph((0, 1), ((0, 1),) * 30), graph)

    def test_parts_of_graphs(self):
        for graph, r in GRAPHS:
            left = tuple(sorted((w for u, _, w in graph if u == 0), reverse=True))
            right = tuple(sorted((w for _, v, w in graph if v == r + 1), reverse=True))
            self.assertEqual(graph_types(graph, r), (left, right))
            self.assertEqual(sum(left), sum(right))
            self.assertEqual(fraction(graph_weight(graph, r)), weight_by_words(graph, r))
            turns = sum(tuple(graph[i] for i in order) == graph for order in itertools.permutations(range(len(graph)))
                        ) if len(graph) < 8 else None
            told = graph_turns(graph, r)
            self.assertEqual(told, prod(factorial(graph.count(edge)) for edge in set(graph)))
            if turns is not None:
                self.assertEqual(told, turns)

    def test_walks(self):
        for graph, r in GRAPHS:
            walk = graph_walk(graph, r)
            self.assertEqual(len(walk), r + 1)
            for i, mu in enumerate(walk):
                self.assertEqual(mu, tuple(sorted((w for u, v, w in graph if u <= i and v > i), reverse=True)))
            left, right = graph_types(graph, r)
            if sum(left) < 13:
                self.assertIs(is_type_walk(walk, left, right), True)

    def test_turned(self):
        for graph, r in GRAPHS:
            told = turned_graph(graph, r)
            self.assertIs(is_walk_graph(told, r), True)
            self.assertEqual(told, tuple(sorted((r + 1 - v, r + 1 - u, w) for u, v, w in graph)))
            self.assertEqual(graph_weight(told, r), graph_weight(graph, r))
            self.assertEqual(graph_types(told, r), graph_types(graph, r)[::-1])
            self.assertEqual(turned_graph(told, r), graph)
            self.assertEqual(graph_walk(told, r), graph_walk(graph, r)[::-1])

    def test_pieces(self):
        for graph, r in GRAPHS:
            pieces = graph_pieces(graph, r)
            self.assertEqual(pieces, tuple(sorted(pieces)))
            self.assertEqual(tuple(sorted(edge for piece in pieces for edge in piece)), graph)
            met = []
            for piece in pieces:
                self.assertEqual(piece, tuple(sorted(piece)))
                ends = {x for u, v, _ in piece for x in (u, v) if 1 <= x <= r}
                met += sorted(ends)
                if not ends:
                    self.assertEqual(len(piece), 1)
                    continue
                # From one vertex the edges of the piece lead to all of them.
                seen = {min(ends)}
                for _ in ends:
                    seen |= {x for u, v, _ in piece for x in (u, v) if {u, v} & seen and 1 <= x <= r}
                self.assertEqual(seen, ends)
            self.assertEqual(sorted(met), list(range(1, r + 1)))
            if len(pieces) == 1:
                inner = sum(u > 0 and v <= r for u, v, _ in graph)
                self.assertEqual(graph_genus(graph, r), inner - r + 1 if r else 0)
            else:
                malformed(self, graph_genus, (graph, r))
        self.assertEqual(graph_pieces((), 0), ())
        self.assertEqual(graph_pieces(((0, 1, 2), (0, 1, 2)), 0), (((0, 1, 2),), ((0, 1, 2),)))
        malformed(self, graph_genus, ((), 0), (((0, 1, 2), (0, 1, 2)), 0))
        self.assertEqual((graph_genus(((0, 1, 3),), 0), graph_genus(RING, 2)), (0, 1))


class Drawings(unittest.TestCase):
    def test_drawn(self):
        source = random.Random(2)
        for d, r in [(0, 0), (1, 0)] + [(source.randint(2, 10), source.randint(0, 12)) for _ in range(150)]:
            a = random_permutation(source, d)
            swaps = tuple(source.choice(swaps_of(d)) for _ in range(r))
            graph = drawn_graph(a, swaps)
            self.assertEqual(graph, drawn_by_words(a, swaps))
            self.assertIs(is_walk_graph(graph, r), True)
            perms = (a,) + tuple(swap_row(d, x, y) for x, y in swaps)
            self.assertIs(len(graph_pieces(graph, r)) == 1, joins_all(d, perms))
            p, walk = a, [lengths(a)]
            for t in perms[1:]:
                p = mul(p, t)
                walk.append(lengths(p))
            self.assertEqual(graph_walk(graph, r), tuple(walk))
        graph = drawn_graph(tuple(range(24)), tuple((x, x + 1) for x in range(23)) + ((0, 23),) * 7)
        self.assertIs(is_walk_graph(graph, 30), True)

    def test_numbers_of_drawings(self):
        for d, r in ((0, 0), (1, 0), (2, 4), (3, 3), (4, 2), (4, 1), (5, 1)):
            counts = {}
            for a in all_permutations(d):
                for swaps in itertools.product(swaps_of(d), repeat=r):
                    graph = drawn_graph(a, swaps)
                    counts[graph] = counts.get(graph, 0) + 1
            listed = [graph for mu in PARTS[d] for nu in PARTS[d] for graph in walk_graphs(mu, nu, r)]
            self.assertEqual(sorted(counts), sorted(listed))
            for graph, many in counts.items():
                self.assertEqual(many, factorial(d) * fraction(graph_weight(graph, r)))


class Lists(unittest.TestCase):
    def test_complete(self):
        for d in range(5):
            for mu, nu in itertools.product(PARTS[d], repeat=2):
                for r in range(5):
                    told = walk_graphs(mu, nu, r)
                    self.assertEqual(told, graphs_by_trying(mu, nu, r))
                    self.assertTrue(all(is_walk_graph(graph, r) for graph in told))

    def test_sums(self):
        for d in range(7):
            for mu, nu in list(itertools.product(PARTS[d], repeat=2))[::2]:
                for r in range(5):
                    self.assertEqual(graph_sum(mu, nu, r), double_number(mu, nu, r))
                    self.assertEqual(connected_sum(mu, nu, r), connected_double(mu, nu, r))

    def test_many_moves(self):
        for mu, nu in (((2,), (2,)), ((1, 1), (2,)), ((2, 1), (3,)), ((3,), (1, 1, 1)), ((4,), (2, 2)), ((1,), (1,))):
            for r in (6, 7, 8) if sum(mu) > 3 else (7, 8, 9, 12):
                graphs = walk_graphs(mu, nu, r)
                self.assertEqual(graphs, tuple(sorted(set(graphs))))
                self.assertEqual(graph_sum(mu, nu, r), double_number(mu, nu, r))
                self.assertEqual(connected_sum(mu, nu, r), connected_double(mu, nu, r))

    def test_many_sheets(self):
        for mu, nu, r in (((12,), (7, 4, 1), 2), ((6, 6), (4, 4, 4), 3), ((5, 4, 3), (12,), 4), ((12,), (12,), 4)):
            self.assertEqual(graph_sum(mu, nu, r), double_number(mu, nu, r))

    def test_cut_through(self):
        for mu, nu, r in (((3, 1), (2, 2), 4), ((2, 1), (1, 1, 1), 5), ((5,), (3, 2), 3)):
            for i in range(r + 1):
                total = 0
                for kappa in PARTS[sum(mu)]:
                    total += (fraction(graph_sum(mu, kappa, i)) * centralizer_order(kappa)
                              * fraction(graph_sum(kappa, nu, r - i)))
                self.assertEqual(fraction(graph_sum(mu, nu, r)), total)

    def test_told(self):
        self.assertEqual(walk_graphs((2,), (2,), 2), (RING,))
        self.assertEqual(walk_graphs((), (), 0), ((),))
        self.assertEqual(walk_graphs((), (), 3), ())
        self.assertEqual((graph_sum((), (), 0), connected_sum((), (), 0)), ((1, 1), (0, 1)))
        self.assertEqual(walk_graphs((2, 2, 1), (2, 2, 1), 0), (((0, 1, 1), (0, 1, 2), (0, 1, 2)),))
        self.assertEqual(walk_graphs((2, 2, 1), (3, 2), 0), ())

    def test_many(self):
        for function in (walk_graphs, graph_sum, connected_sum):
            for mu, nu, r in (((12,), (12,), 12), ((1,) * 12, (12,), 12), ((6,), (6,), 12), ((5, 3, 2, 1, 1), (12,), 8)):
                refused(self, "many", function, mu, nu, r)

    def test_most(self):
        self.assertEqual(walkgraphs.MOST_GRAPHS, 20000)
        mu, r = (3, 1), 4
        most = max(count_layer(mu, i) for i in range(r + 1))
        for function in (walk_graphs, graph_sum, connected_sum):
            with mock.patch.object(walkgraphs, "MOST_GRAPHS", most):
                function(mu, mu, r)
            with mock.patch.object(walkgraphs, "MOST_GRAPHS", most - 1):
                refused(self, "many", function, mu, mu, r)

    def test_how_many(self):
        # Refused as soon as there are more than 20000 graphs with any right type, for some number of moves.
        for mu in ((4,), (5,), (2, 1, 1)):
            r = 0
            while True:
                layer = sum(count_layer(mu, i) > 20000 for i in range(r + 1))
                if layer or r == 12:
                    break
                self.assertTrue(isinstance(walk_graphs(mu, mu, r), tuple))
                r += 1
            if layer:
                refused(self, "many", walk_graphs, mu, mu, r)
                refused(self, "many", graph_sum, mu, (sum(mu),), 12)


LAYERS = {}


def count_layer(mu, i):
    """The number of the graphs with i moves and the left type mu, each one once."""
    if (mu, i) not in LAYERS:
        if i == 0:
            LAYERS[(mu, 0)] = {((), tuple(sorted((0, w) for w in mu)))}
        else:
            count_layer(mu, i - 1)
            found = set()
            for edges, strands in LAYERS[(mu, i - 1)]:
                for one in set(strands):
                    rest = list(strands)
                    rest.remove(one)
                    ends = [(one[0], i, one[1])]
                    for w in range(1, one[1]):
                        found.add(state(edges, ends, rest + [(i, w), (i, one[1] - w)]))
                    for two in set(rest):
                        left = list(rest)
                        left.remove(two)
                        found.add(state(edges, ends + [(two[0], i, two[1])], left + [(i, one[1] + two[1])]))
            LAYERS[(mu, i)] = found
    return len(LAYERS[(mu, i)])


def state(edges, more, strands):
    return (tuple(sorted(edges + tuple(more))), tuple(sorted(strands)))


class Wrong(unittest.TestCase):
    def test_each_place(self):
        moves = lambda value: whole(value) and 0 <= value <= 30
        malformed_in_each_place(self, is_walk_graph, (RING, 2), (lambda value: True, moves))
        graph = lambda value: value != () and is_graph_by_words(value, 2) if isinstance(value, tuple) and all(
            isinstance(edge, tuple) for edge in value) else False
        two = lambda value: whole(value) and value == 2
        for function in (graph_types, graph_weight, graph_turns, graph_pieces, graph_genus, graph_walk, turned_graph):
            malformed_in_each_place(self, function, (RING, 2), (graph, two))
            malformed(self, function, (RING, 31), (RING, -1), (RING, 1), (RING, 3), (RING[::-1], 2), (list(RING), 2))
        fits = lambda value: permutation(value) and len(value) > 2
        swaps = lambda value: isinstance(value, tuple) and all(
            isinstance(pair, tuple) and pair in ((0, 1), (0, 2), (1, 2)) and whole(pair[0]) and whole(pair[1])
            for pair in value)
        malformed_in_each_place(self, drawn_graph, ((1, 2, 0), ((0, 1), (0, 2))), (fits, swaps))
        number = lambda value: whole(value) and value >= 0
        for function in (walk_graphs, graph_sum, connected_sum):
            malformed_in_each_place(self, function, ((2, 1), (3,), 1), (partition_of(3), partition_of(3), number))

    def test_bounds(self):
        malformed(self, is_walk_graph, ((), 31), ((), -1), ((), True), ((), None))
        unit = tuple(range(24))
        drawn_graph(unit, ((0, 23),) * 30)
        malformed(self, drawn_graph, (unit, ((0, 23),) * 31), (tuple(range(25)), ()), (unit, ((0, 24),)),
                  (unit, ((1, 0),)), (unit, ((1, 1),)), (unit, [(0, 1)]), (unit, ((0, 1, 2),)), (unit, ((False, 1),)))

    def test_large(self):
        for function in (walk_graphs, graph_sum, connected_sum):
            for mu, nu, r in (((13,), (13,), 0), ((2,), (2,), 13), ((2,), (2,), 10 ** 60), ((10 ** 60,), (10 ** 60,), 1),
                              ((1,) * 13, (13,), 13)):
                refused(self, "large", function, mu, nu, r)
            malformed(self, function, ((13,), (12,), 13), ((13,), (13,), -1), ((2,), (2, 1), 13), ((13,), [13], 2))


if __name__ == "__main__":
    unittest.main()
