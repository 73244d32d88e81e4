"""Points 17.1 and 17.15 to 17.19: papers of renumberings, numbers of swaps and loop chains, and their judges."""

import itertools
import random
import unittest
from math import factorial

from branchsheets.cells import deck_trace, filling_of, loop_basis, loop_rank
from branchsheets.decks import deck_maps
from branchsheets.permutations import least_conjugator
from branchsheets.surfacejudges import takes_filled, takes_independent, takes_renumbered, takes_swaps, takes_trace
from branchsheets.surfacepapers import filled_paper, independent_paper, renumbered_paper, swaps_paper, trace_paper
from helpers import VALUES, all_permutations, closed_up, connected, cycle_row, inv, lengths, malformed
from helpers import malformed_in_each_place, mul, permutation, product_by_walking, random_permutation, random_systems
from helpers import refused, swap_row, system, whole
from judging import ahead_of_papers, form, integers, judged, same, strangers_judged
from surfaces import ABOVE, EMPTY, GREAT, boundary_by_hand, crossing_by_hand, determinant, edges_of, faces_by_hand
from surfaces import summed

S = (3, ((1, 2, 0), (1, 2, 0), (1, 2, 0)))
A, B = (1, 0, 0, -1, 0, 0, 0, 0, 0), (0, 0, 0, 1, 0, 0, -1, 0, 0)
SURFACES = [closed_up(R) for R in random_systems(201, 25, 4, 3)] + EMPTY + [S, (4, ((1, 2, 3, 0),) * 4)]


def cycles_by_hand(p):
    rows = []
    for x in range(len(p)):
        row, y = [x], p[x]
        while y != x:
            row.append(y)
            y = p[y]
        if min(row) == x:
            rows.append(tuple(row))
    return tuple(rows)


def renumbered_by_words(p, q, paper):
    """Point 17.15."""
    if form(paper, "by", 1):
        f = paper[1]
        return permutation(f) and len(f) == len(p) and mul(mul(inv(f), p), f) == q
    if form(paper, "lengths", 3) and whole(paper[1]):
        one, two = [tuple(row for row in cycles_by_hand(r) if len(row) == paper[1]) for r in (p, q)]
        return same(paper[2], one) and same(paper[3], two) and len(one) != len(two)
    return False


class Renumbered(unittest.TestCase):
    def test_small(self):
        for d in range(5):
            for seed, (p, q) in enumerate(itertools.product(all_permutations(d)[:24], repeat=2)):
                if d == 4 and seed % 5:
                    continue
                paper = renumbered_paper(p, q)
                judged(self, takes_renumbered, renumbered_by_words, (p, q), paper, seed, 8)
                self.assertEqual(paper[0], "by" if lengths(p) == lengths(q) else "lengths")
                rows = [f for f in all_permutations(d) if takes_renumbered(p, q, ("by", f))]
                self.assertEqual(paper == ("by", min(rows)) if rows else paper[0] == "lengths", True)
                told = [m for m in range(-1, d + 2) if lengths(p).count(m) != lengths(q).count(m)]
                if told:
                    self.assertEqual(paper[1], max(told))
                for m in range(-1, d + 2):
                    one, two = [tuple(row for row in cycles_by_hand(r) if len(row) == m) for r in (p, q)]
                    self.assertIs(takes_renumbered(p, q, ("lengths", m, one, two)), m in told)

    def test_great(self):
        source = random.Random(21)
        for _ in range(40):
            d = source.randint(20, 60)
            p, f = random_permutation(source, d), random_permutation(source, d)
            q = mul(mul(inv(f), p), f)
            self.assertEqual(renumbered_paper(p, q), ("by", least_conjugator(p, q)))
            self.assertIs(takes_renumbered(p, q, ("by", f)), True)
            self.assertIs(takes_renumbered(p, q, renumbered_paper(p, q)), True)
            r = mul(q, swap_row(d, 0, d - 1))
            paper = renumbered_paper(p, r)
            self.assertEqual(paper[0], "lengths")
            self.assertIs(takes_renumbered(p, r, paper), True)
            self.assertIs(renumbered_by_words(p, r, paper), True)

    def test_told(self):
        p, q = (1, 0, 2), (0, 1, 2)
        self.assertIs(takes_renumbered(p, (0, 2, 1), ("by", (1, 2, 0))), True)
        self.assertIs(takes_renumbered(p, q, ("lengths", 2, ((0, 1),), ())), True)
        for wrong in (("lengths", 2, ((1, 0),), ()), ("lengths", 2, (), ((0, 1),)), ("lengths", 2, [(0, 1)], ()),
                      ("lengths", 2, ((False, True),), ()), ("lengths", True, ((2,),), ((0,), (1,), (2,))),
                      ("lengths", 1, ((2,),), ((0,), (2,), (1,))), ("lengths", 1, ((2,),), ((0,), (1,))),
                      ("lengths", 3, (), ()), ("lengths", 0, (), ()), ("lengths", 2, ((0, 1),)), ("lengths", "2", (), ())):
            self.assertIs(takes_renumbered(p, q, wrong), False, wrong)
        self.assertIs(takes_renumbered(p, q, ("lengths", 1, ((2,),), ((0,), (1,), (2,)))), True)
        self.assertIs(takes_renumbered((), (), ("by", ())), True)

    def test_wrong(self):
        for q in ((1, 0, 2), (0, 1, 2), (2, 1, 0)):
            strangers_judged(self, takes_renumbered, renumbered_by_words, ((1, 0, 2), q))
        three = lambda value: permutation(value) and len(value) == 3
        malformed_in_each_place(self, renumbered_paper, ((1, 0, 2), (0, 2, 1)), (three, three))
        ahead_of_papers(self, takes_renumbered, ((1, 0, 2), (0, 2, 1)), (three, three))


def swaps_by_words(p, m, paper):
    """Point 17.16."""
    d, cycles = len(p), cycles_by_hand(p)
    if same(paper, ("still",)):
        return d <= 1 and m > 0
    if form(paper, "short", 1):
        return same(paper[1], cycles) and d - len(cycles) > m
    if form(paper, "sign", 1):
        return same(paper[1], cycles) and (d - len(cycles) - m) % 2 == 1
    if form(paper, "swaps", 1) and isinstance(paper[1], tuple) and len(paper[1]) == m:
        rows = paper[1]
        if not all(integers(swap, 2) and 0 <= swap[0] < swap[1] < d for swap in rows):
            return False
        return product_by_walking(d, [swap_row(d, *swap) for swap in rows]) == p
    return False


class Swaps(unittest.TestCase):
    def check(self, p, m, seed, many=10):
        paper = swaps_paper(p, m)
        judged(self, takes_swaps, swaps_by_words, (p, m), paper, seed, many)
        cycles = cycles_by_hand(p)
        kinds = [("still",), ("short", cycles), ("sign", cycles)]
        others = [kind for kind in kinds if takes_swaps(p, m, kind)]
        self.assertEqual(others, [kind for kind in kinds if swaps_by_words(p, m, kind)])
        # The first of these that is accepted, otherwise swaps.
        self.assertEqual(paper if others else paper[0], others[0] if others else "swaps")

    def test_small(self):
        for d in range(6):
            for seed, p in enumerate(all_permutations(d)):
                for m in (range(8) if d < 5 else (3, 4)):
                    self.check(p, m, seed, 6)

    def test_all_rows(self):
        for d, most in ((2, 4), (3, 3)):
            swaps = list(itertools.combinations(range(d), 2))
            for p in all_permutations(d):
                for m in range(most + 1):
                    rows = [row for row in itertools.product(swaps, repeat=m) if takes_swaps(p, m, ("swaps", row))]
                    told = [row for row in itertools.product(swaps, repeat=m) if swaps_by_words(p, m, ("swaps", row))]
                    self.assertEqual(rows, told)
                    self.assertIs(swaps_paper(p, m)[0] == "swaps", told != [])

    def test_great(self):
        source = random.Random(22)
        for seed in range(12):
            p = random_permutation(source, source.randint(20, 60))
            for m in (0, 1, 10, len(p) - len(cycles_by_hand(p)), 57, 199, 200):
                self.check(p, m, seed, 3)

    def test_told(self):
        self.assertIs(takes_swaps((1, 2, 0), 2, ("swaps", ((0, 1), (0, 2)))), True)
        self.assertIs(takes_swaps((1, 2, 0), 3, ("sign", ((0, 1, 2),))), True)
        for wrong in (((0, 2), (0, 1)), ((1, 0), (0, 2)), ((0, 1), (0, 2), (0, 1), (0, 1)), ((0, 1), (0, 3)), ((0, 0), (0, 1)),
                      ((False, True), (0, 2)), [(0, 1), (0, 2)], ([0, 1], (0, 2)), (), None):
            self.assertIs(takes_swaps((1, 2, 0), 2, ("swaps", wrong)), False)
        self.assertEqual([swaps_paper(p, m) for p, m in (((), 0), ((0,), 0), ((), 1), ((0,), 200))],
                         [("swaps", ()), ("swaps", ()), ("still",), ("still",)])
        # Both of two papers hold here: the first of the three is told.
        self.assertEqual(swaps_paper((1, 2, 0), 1), ("short", ((0, 1, 2),)))
        self.assertIs(takes_swaps((1, 2, 0), 1, ("sign", ((0, 1, 2),))), True)
        self.assertEqual(swaps_paper((0,), 1), ("still",))
        self.assertIs(takes_swaps((0,), 1, ("sign", ((0,),))), True)

    def test_wrong(self):
        for p, m in (((1, 0, 2), 0), ((1, 0, 2), 1), ((1, 0, 2), 2), ((0,), 1), ((), 0)):
            strangers_judged(self, takes_swaps, swaps_by_words, (p, m))
        number = lambda value: whole(value) and 0 <= value <= 200
        malformed_in_each_place(self, swaps_paper, ((1, 0, 2), 3), (permutation, number))
        ahead_of_papers(self, takes_swaps, ((1, 0, 2), 3), (permutation, number))
        malformed(self, swaps_paper, ((1, 0), 201), ((1, 0), -1), ((0,), 201))
        malformed(self, takes_swaps, ((1, 0), 201, None), ((1, 0), -1, None), ((), 201, ("still",)))


def face_rows(T):
    """The chains of the faces, by hand."""
    rows = []
    for face in faces_by_hand(T):
        rows.append(tuple(face.count(edge) for edge in edges_of(T)))
    return rows


def loop(T, value):
    return integers(value, T[0] * len(T[1])) and not any(boundary_by_hand(T, value))


def filled_by_words(T, a, paper):
    """Point 17.17."""
    if form(paper, "filled", 1):
        faces = face_rows(T)
        return integers(paper[1], len(faces)) and summed(T, paper[1], faces) == a
    if form(paper, "crossed", 1):
        return loop(T, paper[1]) and crossing_by_hand(T, a, paper[1]) != 0
    return False


def random_loop(source, T, basis, most=5):
    rows = list(basis) + face_rows(T)
    return summed(T, [source.randint(-most, most) if source.random() < 0.6 else 0 for _ in rows], rows)


def random_filled(source, T, most=5):
    rows = face_rows(T)
    return summed(T, [source.randint(-most, most) for _ in rows], rows)


class Filled(unittest.TestCase):
    def test_papers(self):
        source = random.Random(23)
        kinds = set()
        for T in SURFACES:
            basis = loop_basis(T)
            for seed in range(6):
                a = random_loop(source, T, basis) if seed % 2 else random_filled(source, T)
                paper = filled_paper(T, a)
                kinds.add(paper[0])
                judged(self, takes_filled, filled_by_words, (T, a), paper, seed, 10)
                crossed = any(crossing_by_hand(T, a, b) for b in basis)
                self.assertEqual(paper[0], "crossed" if crossed else "filled")
                # The other kind is accepted for none of these.
                times = filling_of(T, a) or tuple(source.randint(-3, 3) for _ in face_rows(T))
                self.assertIs(takes_filled(T, a, ("filled", times)), not crossed)
                for b in list(basis) + [random_loop(source, T, basis) for _ in range(4)]:
                    self.assertIs(takes_filled(T, a, ("crossed", b)), crossing_by_hand(T, a, b) != 0)
        self.assertEqual(kinds, {"filled", "crossed"})

    def test_told(self):
        self.assertIs(takes_filled(S, (1, 1, 1, 0, 0, 0, 0, 0, 0), ("filled", (1, 0, 0, 0, 0, 0))), True)
        self.assertIs(takes_filled(S, A, ("crossed", B)), True)
        self.assertIs(takes_filled(S, A, ("crossed", A)), False)
        self.assertIs(takes_filled(S, A, ("crossed", (1, 0, 0, 0, 0, 0, 0, 0, 0))), False)
        self.assertIs(takes_filled(S, A, ("crossed", B[:-1])), False)
        self.assertIs(takes_filled(S, (1, 1, 1, 0, 0, 0, 0, 0, 0), ("filled", (True, 0, 0, 0, 0, 0))), False)
        self.assertIs(takes_filled(S, (1, 1, 1, 0, 0, 0, 0, 0, 0), ("filled", (1, 0, 0, 0, 0))), False)
        # All petals less all outer faces: another way to fill the same.
        self.assertIs(takes_filled(S, (1, 1, 1, 0, 0, 0, 0, 0, 0), ("filled", (2, 1, 1, -1, -1, -1))), True)

    def test_great(self):
        source = random.Random(24)
        for T in GREAT:
            basis = loop_basis(T)
            for seed in range(4):
                a = random_loop(source, T, basis, 10 ** 30) if seed % 2 else random_filled(source, T, 10 ** 30)
                paper = filled_paper(T, a)
                self.assertIs(takes_filled(T, a, paper), True)
                self.assertIs(filled_by_words(T, a, paper), True)
                if paper[0] == "filled":
                    self.assertIs(takes_filled(T, a, ("filled", paper[1][::-1])), paper[1] == paper[1][::-1])

    def test_wrong(self):
        for T, a in ((S, A), (S, (1, 1, 1, 0, 0, 0, 0, 0, 0)), ((2, ()), ())):
            strangers_judged(self, takes_filled, filled_by_words, (T, a))
        errors_of_surfaces(self, filled_paper, takes_filled, A, lambda value: loop(S, value))
        # No loop chain is Malformed, ahead of Refused.
        for T in ABOVE:
            n = T[0] * len(T[1])
            refused(self, "large", filled_paper, T, (0,) * n)
            refused(self, "large", takes_filled, T, (0,) * n, None)
            moved = [at for at, (i, x) in enumerate(edges_of(T)) if T[1][i][x] != x]
            if moved:
                edge = tuple(int(at == moved[0]) for at in range(n))
                malformed(self, filled_paper, (T, edge), (T, (0,) * (n - 1)))
                malformed(self, takes_filled, (T, edge, None), (T, (0,) * (n - 1), ("filled", ())))


def errors_of_surfaces(case, maker, judge, good, fits):
    """Malformed for what is no closed system, and for what does not fit S."""
    surface = lambda value: system(value) and value[0] == 3 and len(value[1]) == 3 and closed_up(
        (3, value[1][:2])) == value
    malformed_in_each_place(case, maker, (S, good), (surface, fits))
    ahead_of_papers(case, judge, (S, good), (surface, fits))
    malformed(case, maker, ((2, ((1, 0),)), good), ((25, ()), good), (None, None))
    malformed(case, judge, ((2, ((1, 0),)), good, None), ((25, ()), good, None), (None, None, None))


def independent_by_words(T, chains, paper):
    """Point 17.18."""
    if form(paper, "apart", 1):
        others = paper[1]
        if not (isinstance(others, tuple) and len(others) == len(chains) and all(loop(T, b) for b in others)):
            return False
        return determinant([[crossing_by_hand(T, a, b) for b in others] for a in chains]) != 0
    if form(paper, "tied", 2):
        _, factors, times = paper
        faces = face_rows(T)
        if not (integers(factors, len(chains)) and any(factors) and integers(times, len(faces))):
            return False
        return summed(T, factors, chains) == summed(T, times, faces)
    return False


class Independent(unittest.TestCase):
    def test_papers(self):
        source = random.Random(25)
        kinds = set()
        for T in SURFACES:
            basis = loop_basis(T)
            for seed in range(6):
                chains = tuple(random_loop(source, T, basis) for _ in range(source.randint(0, len(basis) + 1)))
                if seed % 3 == 0 and chains:
                    chains = source.choice([chains + chains[:1], chains[1:] + (random_filled(source, T),)])
                chains = chains[:12]
                paper = independent_paper(T, chains)
                kinds.add(paper[0])
                judged(self, takes_independent, independent_by_words, (T, chains), paper, seed, 10)
                # The crossing numbers with a basis tell the rank.
                table = [[crossing_by_hand(T, a, b) for b in basis] for a in chains]
                free = any(determinant([[row[j] for j in columns] for row in table])
                           for columns in itertools.combinations(range(len(basis)), len(chains)))
                self.assertEqual(paper[0], "apart" if free else "tied")
        self.assertEqual(kinds, {"apart", "tied"})

    def test_never_both(self):
        source = random.Random(26)
        for T in SURFACES:
            basis = loop_basis(T)
            for _ in range(4):
                chains = tuple(random_loop(source, T, basis, 2) for _ in range(min(2, len(basis))))
                paper = independent_paper(T, chains)
                for _ in range(20):
                    others = tuple(random_loop(source, T, basis) for _ in chains)
                    self.assertFalse(paper[0] == "tied" and takes_independent(T, chains, ("apart", others)))
                    factors = tuple(source.randint(-2, 2) for _ in chains)
                    times = filling_of(T, summed(T, factors, chains)) or ()
                    if takes_independent(T, chains, ("tied", factors, times)):
                        self.assertEqual(paper[0], "tied")

    def test_told(self):
        petal = (1, 1, 1, 0, 0, 0, 0, 0, 0)
        self.assertIs(takes_independent(S, (A, B), ("apart", (A, B))), True)
        self.assertIs(takes_independent(S, (A, B), ("apart", (B, A))), True)
        self.assertIs(takes_independent(S, (A, B), ("apart", (A, A))), False)
        self.assertIs(takes_independent(S, (A, B), ("apart", (A,))), False)
        self.assertIs(takes_independent(S, (A, B), ("apart", [A, B])), False)
        self.assertIs(takes_independent(S, (A,), ("apart", (B,))), True)
        self.assertIs(takes_independent(S, (A,), ("apart", (A,))), False)
        self.assertIs(takes_independent(S, (), ("apart", ())), True)
        self.assertIs(takes_independent(S, (), ("tied", (), (0,) * 6)), False)
        self.assertIs(takes_independent(S, (petal,), ("tied", (1,), (1, 0, 0, 0, 0, 0))), True)
        self.assertIs(takes_independent(S, (petal,), ("tied", (-2,), (-2, 0, 0, 0, 0, 0))), True)
        self.assertIs(takes_independent(S, (petal,), ("tied", (0,), (0, 0, 0, 0, 0, 0))), False)
        self.assertIs(takes_independent(S, (petal,), ("tied", (True,), (1, 0, 0, 0, 0, 0))), False)
        self.assertIs(takes_independent(S, (A, A), ("tied", (1, -1), (0,) * 6)), True)
        self.assertIs(takes_independent(S, (A, A), ("tied", (1, 1), (0,) * 6)), False)

    def test_great(self):
        source = random.Random(27)
        for T in GREAT:
            basis = loop_basis(T)
            for n in (1, 5, 11, 12):
                chains = tuple(random_loop(source, T, source.sample(basis, 6), 10 ** 12) for _ in range(n))
                for rows in (chains, chains[:-1] + (summed(T, [3] + [2] * (n - 2), chains[:-1]),)):
                    paper = independent_paper(T, rows)
                    self.assertIs(takes_independent(T, rows, paper), True)
                    self.assertIs(independent_by_words(T, rows, paper), True)
                self.assertEqual(paper[0], "tied")

    def test_wrong(self):
        for chains in ((A, B), (A, A), (A,), ()):
            strangers_judged(self, takes_independent, independent_by_words, (S, chains))
        fits = lambda value: isinstance(value, tuple) and len(value) <= 12 and all(loop(S, a) for a in value)
        errors_of_surfaces(self, independent_paper, takes_independent, (A, B), fits)
        self.assertEqual(independent_paper(S, (A,) * 12)[0], "tied")
        malformed(self, independent_paper, (S, (A,) * 13), (S, [A]), (S, (A, A[:-1])), (S, (A, (1,) + (0,) * 8)))
        malformed(self, takes_independent, (S, (A,) * 13, None), (S, [A], None), (S, (A, (1,) + (0,) * 8), None))
        for T in ABOVE:
            n = T[0] * len(T[1])
            refused(self, "large", independent_paper, T, ((0,) * n,))
            refused(self, "large", takes_independent, T, (), ("apart", ()))
            malformed(self, independent_paper, (T, ((0,) * n,) * 13), (T, ((0,) * n, (0,))))
            malformed(self, takes_independent, (T, ((0,) * n,) * 13, None), (T, ((0,) * n, (0,)), None))


def moved_by_hand(T, f, a):
    d = T[0]
    row = [0] * len(a)
    for at, many in enumerate(a):
        row[at // d * d + f[at % d]] = many
    return tuple(row)


def trace_by_words(T, f, paper):
    """Point 17.19."""
    if not form(paper, "trace", 3):
        return False
    _, t, chains, rows = paper
    n = loop_rank(T)
    if not (isinstance(chains, tuple) and len(chains) == n and all(loop(T, a) for a in chains) and whole(t)):
        return False
    if not (isinstance(rows, tuple) and len(rows) == n and all(integers(row, n) for row in rows)):
        return False
    table = [[crossing_by_hand(T, a, b) for b in chains] for a in chains]
    if determinant(table) != 1 or t != sum(rows[j][j] for j in range(n)):
        return False
    for a, row in zip(chains, rows):
        one, two = moved_by_hand(T, f, a), summed(T, row, chains)
        if any(crossing_by_hand(T, one, b) != crossing_by_hand(T, two, b) for b in chains):
            return False
    return True


def partner_maps(T):
    """All permutations that go with those of the system."""
    return [f for f in all_permutations(T[0]) if all(mul(f, p) == mul(p, f) for p in T[1])]


class Traces(unittest.TestCase):
    def test_papers(self):
        source = random.Random(28)
        for T in SURFACES:
            if T[0] > 5:
                continue
            maps = partner_maps(T)
            for seed, f in enumerate(source.sample(maps, min(4, len(maps)))):
                paper = trace_paper(T, f)
                self.assertEqual(paper[1], deck_trace(T, f))
                judged(self, takes_trace, trace_by_words, (T, f), paper, seed, 15)
                self.assertIs(takes_trace(T, f, ("trace", paper[1] + 1) + paper[2:]), False)

    def test_of_another_basis(self):
        source = random.Random(29)
        for T in [T for T in SURFACES if 0 < loop_rank(T) and T[0] < 6]:
            for f in partner_maps(T)[:3]:
                _, t, chains, rows = trace_paper(T, f)
                n = len(chains)
                i, j, c = source.randrange(n), source.randrange(n), source.randint(-2, 2)
                if i != j:
                    # The chain i becomes itself and c times the chain j; so the rows and columns change, not the trace.
                    others = list(chains)
                    others[i] = summed(T, (1, c), (chains[i], chains[j]))
                    table = [list(row) for row in rows]
                    table[i] = [one + c * two for one, two in zip(table[i], table[j])]
                    for row in table:
                        row[j] -= c * row[i]
                    table = tuple(map(tuple, table))
                    self.assertIs(takes_trace(T, f, ("trace", t, tuple(others), table)), True)
                    self.assertIs(takes_trace(T, f, ("trace", t, tuple(others), rows)),
                                  trace_by_words(T, f, ("trace", t, tuple(others), rows)))
                zero = list(chains)
                zero[i] = (0,) * len(chains[i])
                self.assertIs(takes_trace(T, f, ("trace", t, tuple(zero), rows)), False)
                double = list(chains)
                double[i] = summed(T, (2,), (chains[i],))
                self.assertIs(takes_trace(T, f, ("trace", t, tuple(double), rows)), False)
                swapped = chains[::-1], tuple(row[::-1] for row in rows[::-1])
                self.assertIs(takes_trace(T, f, ("trace", t) + swapped), True)

    def test_told(self):
        f = (1, 2, 0)
        told = ("trace", -1, (A, B), ((0, 1), (-1, -1)))
        self.assertIs(trace_by_words(S, f, told), takes_trace(S, f, told))
        good = trace_paper(S, f)
        self.assertEqual(good[1], -1)
        for wrong in (good[:3], good + (0,), ("trace", True) + good[2:], ("trace", -1, good[2], list(good[3])),
                      ("trace", -1, list(good[2]), good[3]), ("trace", -1, good[2][:1], good[3][:1]),
                      ("trace", -1, good[2], good[3][::-1]), ("trace", -1, good[2] * 2, good[3])):
            self.assertIs(takes_trace(S, f, wrong), False)
        self.assertIs(takes_trace((3, ((0, 1, 2),)), f, ("trace", 0, (), ())), True)
        self.assertIs(takes_trace((3, ((0, 1, 2),)), f, ("trace", False, (), ())), False)
        self.assertIs(takes_trace((0, ()), (), ("trace", 0, (), ())), True)

    def test_great(self):
        turned = (12, tuple(cycle_row(12) for _ in range(9)) + (tuple((x + 3) % 12 for x in range(12)),))
        for T in GREAT + [turned]:
            for f in deck_maps(T)[:3] if connected(T) else [tuple(range(T[0]))]:
                paper = trace_paper(T, f)
                self.assertEqual(paper[1], deck_trace(T, f))
                self.assertIs(takes_trace(T, f, paper), True)
                self.assertIs(takes_trace(T, f, ("trace", paper[1], paper[2], paper[3][::-1])), False)
        self.assertEqual(factorial(3), len(partner_maps((3, ()))))

    def test_wrong(self):
        for f in ((0, 1, 2), (1, 2, 0)):
            strangers_judged(self, takes_trace, trace_by_words, (S, f))
        fits = lambda value: permutation(value) and len(value) == 3 and mul(value, (1, 2, 0)) == mul((1, 2, 0), value)
        self.assertTrue(any(permutation(value) and len(value) == 3 for value in VALUES))
        errors_of_surfaces(self, trace_paper, takes_trace, (1, 2, 0), fits)
        malformed(self, trace_paper, (S, (1, 0, 2)), (S, (0, 1)), (S, [0, 1, 2]))
        for T in ABOVE:
            unit = tuple(range(T[0]))
            refused(self, "large", trace_paper, T, unit)
            refused(self, "large", takes_trace, T, unit, None)
            malformed(self, trace_paper, (T, unit[:-1]), (T, None))
            malformed(self, takes_trace, (T, unit[:-1], None), (T, None, ("trace", 0, (), ())))


if __name__ == "__main__":
    unittest.main()
