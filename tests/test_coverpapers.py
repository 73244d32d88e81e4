"""Points 17.1 to 17.5: papers of covers, and their judges."""

import itertools
import random
import unittest

from branchsheets.coverjudges import takes_alike, takes_blocks, takes_galois, takes_over
from branchsheets.coverpapers import alike_paper, blocks_paper, galois_paper, over_paper
from branchsheets.systems import renumbered_system
from helpers import ALL_24, VALUES, connected, cycle_row, malformed, malformed_in_each_place, permutation
from helpers import random_permutation, random_systems, system, walk, whole, word
from judging import form, judged

S = (3, ((1, 0, 2), (0, 2, 1), (1, 2, 0)))
SIX = (6, ((1, 2, 3, 4, 5, 0),))
SMALL = random_systems(71, 40, 4, 2, connected) + [(1, ()), (1, ((0,),)), (2, ((1, 0), (1, 0))), SIX, S]
LARGER = random_systems(72, 20, 9, 3, connected)
CYCLE_24 = (24, (cycle_row(24), tuple(range(24))))
HALVES_24 = (24, (cycle_row(24), tuple((x + 12) % 24 for x in range(24))))


def pairs():
    rows = [(A, B) for A, B in itertools.product(SMALL, repeat=2) if len(A[1]) == len(B[1])]
    source = random.Random(73)
    for A in SMALL + LARGER:
        rows.append((A, renumbered_system(A, random_permutation(source, A[0]))))
    return rows + [(ALL_24, CYCLE_24), (CYCLE_24, ALL_24), (CYCLE_24, HALVES_24), (HALVES_24, HALVES_24),
                   (CYCLE_24, (2, ((1, 0), (0, 1)))), ((2, ((1, 0), (0, 1))), CYCLE_24)]


PAIRS = pairs()


def is_map(A, B, f):
    if not (isinstance(f, tuple) and len(f) == A[0] and all(whole(y) and 0 <= y < B[0] for y in f)):
        return False
    return all(f[p[x]] == q[f[x]] for p, q in zip(A[1], B[1]) for x in range(A[0]))


def maps(A, B):
    """All maps, by following the sheets from 0."""
    rows = []
    for y in range(B[0]):
        f, waiting = {0: y}, [0]
        while waiting:
            x = waiting.pop()
            for p, q in zip(A[1], B[1]):
                if p[x] not in f:
                    f[p[x]] = q[f[x]]
                    waiting.append(p[x])
        f = tuple(f[x] for x in range(A[0]))
        if is_map(A, B, f):
            rows.append(f)
    return rows


def closed(A, x, w):
    return walk(A, x, w) == x


def words_for(A, B, value):
    return isinstance(value, tuple) and len(value) == B[0] and all(word(w, len(A[1])) for w in value)


def alike_by_words(A, B, paper):
    """Point 17.2."""
    if form(paper, "alike", 1):
        return permutation(paper[1]) and A[0] == B[0] and is_map(A, B, paper[1])
    if form(paper, "apart", 1) and words_for(A, B, paper[1]):
        return all(closed(A, 0, w) + closed(B, y, w) == 1 for y, w in enumerate(paper[1]))
    return False


def over_by_words(A, B, paper):
    """Point 17.3."""
    if form(paper, "over", 1):
        return is_map(A, B, paper[1])
    if form(paper, "none", 1) and words_for(A, B, paper[1]):
        return all(closed(A, 0, w) and not closed(B, y, w) for y, w in enumerate(paper[1]))
    return False


def galois_by_words(A, paper):
    """Point 17.4."""
    if form(paper, "galois", 1):
        rows = paper[1]
        return isinstance(rows, tuple) and len(rows) == A[0] and all(
            is_map(A, A, f) and f[0] == y for y, f in enumerate(rows))
    if form(paper, "uneven", 2):
        _, y, w = paper
        return (whole(y) and 0 <= y < A[0] and word(w, len(A[1])) and closed(A, 0, w) and not closed(A, y, w))
    return False


def joined_by_row(A, y, row):
    if not isinstance(row, tuple):
        return False
    sets = [{x} for x in range(A[0])]

    def join(u, v):
        one = [part for part in sets if u in part][0]
        two = [part for part in sets if v in part][0]
        if one is not two:
            sets.remove(two)
            one |= two
            return False
        return True

    join(0, y)
    for triple in row:
        if not (isinstance(triple, tuple) and len(triple) == 3 and all(whole(n) for n in triple)):
            return False
        u, v, i = triple
        if not (0 <= u < A[0] and 0 <= v < A[0] and 0 < abs(i) <= len(A[1])):
            return False
        if not any(u in part and v in part for part in sets):
            return False
        join(walk(A, u, (i,)), walk(A, v, (i,)))
    return len(sets) == 1


def blocks_by_words(A, paper):
    """Point 17.5."""
    if form(paper, "blocks", 1):
        row = paper[1]
        if not (isinstance(row, tuple) and len(row) == A[0] and all(whole(n) for n in row)):
            return False
        if row[0] != 0 or any(not 0 <= row[i] <= max(row[:i]) + 1 for i in range(1, A[0])):
            return False
        alike = [(x, y) for x in range(A[0]) for y in range(x) if row[x] == row[y]]
        kept = all(row[p[x]] == row[p[y]] for p in A[1] for x, y in alike)
        return kept and 2 <= len(set(row)) < A[0]
    if form(paper, "primitive", 1):
        rows = paper[1]
        return isinstance(rows, tuple) and len(rows) == A[0] - 1 and all(
            joined_by_row(A, y, row) for y, row in enumerate(rows, 1))
    return False


def longest(paper):
    """The greatest number of letters of the words of a paper."""
    return max([len(w) for w in paper[1]])


class Alike(unittest.TestCase):
    def test_papers(self):
        for seed, (A, B) in enumerate(PAIRS):
            paper = alike_paper(A, B)
            self.assertEqual(paper[0], "alike" if A[0] == B[0] and maps(A, B) else "apart")
            judged(self, takes_alike, alike_by_words, (A, B), paper, seed)
            if paper[0] == "apart":
                self.assertLessEqual(longest(paper), 2 * max(A[0], B[0]) + 1)

    def test_other_papers(self):
        T = renumbered_system(S, (1, 2, 0))
        self.assertIs(takes_alike(S, T, ("alike", (1, 2, 0))), True)
        self.assertIs(takes_alike(S, T, ("alike", (0, 1, 2))), False)
        self.assertIs(takes_alike(S, T, ["alike", (1, 2, 0)]), False)
        self.assertIs(takes_alike(S, T, ("alike", [1, 2, 0])), False)
        self.assertIs(takes_alike(S, T, ("alike", (True, 2, 0))), False)
        self.assertIs(takes_alike(S, T, ("alike", (1, 2, 0), ())), False)
        self.assertIs(takes_alike(S, T, ("alik", (1, 2, 0))), False)
        # A word may be closed at the one or at the other sheet.
        one, two = (2, ((1, 0),)), (3, ((1, 2, 0),))
        self.assertIs(takes_alike(one, two, ("apart", ((1, 1), (1, 1, 1), (-1, -1)))), True)
        self.assertIs(takes_alike(one, two, ("apart", ((1, 1), (1, 1, 1), (1,)))), False)
        self.assertIs(takes_alike(one, two, ("apart", ((1, 1), (1, 1, 1), (1,) * 6))), False)
        self.assertIs(takes_alike(one, two, ("apart", ((1, 1), (1, 1, 1)))), False)
        self.assertIs(takes_alike(one, two, ("apart", ((1, 1), (1, 1, 1), (2, 2)))), False)
        self.assertIs(takes_alike(one, two, ("apart", ((1, 1), (1, 1, 1), (1,) * 2000))), True)
        self.assertIs(takes_alike(one, two, ("apart", ((1, 1), (1, 1, 1), (1,) * 2002))), False)
        # A map onto fewer sheets is no renumbering.
        self.assertIs(takes_alike(SIX, (2, ((1, 0),)), ("alike", (0, 1, 0, 1, 0, 1))), False)
        self.assertIs(takes_alike((1, ()), (1, ()), ("alike", (0,))), True)


class Over(unittest.TestCase):
    def test_papers(self):
        for seed, (A, B) in enumerate(PAIRS):
            paper = over_paper(A, B)
            self.assertEqual(paper[0], "over" if maps(A, B) else "none")
            judged(self, takes_over, over_by_words, (A, B), paper, seed)
            if paper[0] == "none":
                self.assertLessEqual(longest(paper), 2 * max(A[0], B[0]) + 1)

    def test_each_map(self):
        for A, B in PAIRS[::5]:
            for f in maps(A, B):
                self.assertIs(takes_over(A, B, ("over", f)), True)
        two = (2, ((1, 0),))
        self.assertIs(takes_over(SIX, two, ("over", (0, 1, 0, 1, 0, 1))), True)
        self.assertIs(takes_over(SIX, two, ("over", (0, 1, 0, 1, 0, True))), False)
        self.assertIs(takes_over(two, SIX, ("none", ((1, 1),) * 6)), True)
        self.assertIs(takes_over(two, SIX, ("none", ((1, 1),) * 5)), False)
        # Closed at the one is not enough, and closed at the other one alone does not count.
        self.assertIs(takes_over(two, SIX, ("none", ((1,) * 6,) + ((1, 1),) * 5)), False)
        self.assertIs(takes_over(SIX, two, ("none", ((1, 1),) * 2)), False)


class Galois(unittest.TestCase):
    def test_papers(self):
        for seed, A in enumerate(SMALL + LARGER + [ALL_24, CYCLE_24, HALVES_24]):
            paper = galois_paper(A)
            self.assertEqual(paper[0], "galois" if len(maps(A, A)) == A[0] else "uneven")
            judged(self, takes_galois, galois_by_words, (A,), paper, seed)
            if paper[0] == "uneven":
                self.assertLessEqual(len(paper[2]), 2 * A[0] + 1)

    def test_told(self):
        self.assertEqual(galois_paper((2, ((1, 0),))), ("galois", ((0, 1), (1, 0))))
        self.assertIs(takes_galois(S, ("uneven", 1, (2,))), True)
        self.assertIs(takes_galois(S, ("uneven", True, (2,))), False)
        self.assertIs(takes_galois(S, ("uneven", 0, (2,))), False)
        self.assertIs(takes_galois(S, ("uneven", 3, (2,))), False)
        self.assertIs(takes_galois(S, ("uneven", 1, [2])), False)
        self.assertIs(takes_galois(S, ("uneven", 1, (4,))), False)
        self.assertIs(takes_galois((2, ((1, 0),)), ("galois", ((1, 0), (0, 1)))), False)
        self.assertIs(takes_galois((2, ((1, 0),)), ("galois", ((0, 1), (True, 0)))), False)


class Blocks(unittest.TestCase):
    def test_papers(self):
        for seed, A in enumerate([A for A in SMALL + LARGER + [ALL_24, CYCLE_24, HALVES_24] if A[0] > 1]):
            paper = blocks_paper(A)
            judged(self, takes_blocks, blocks_by_words, (A,), paper, seed)
            blocks = A[0] < 10 and any(blocks_by_words(A, ("blocks", row)) for row in colourings(A[0]))
            if A[0] < 10:
                self.assertEqual(paper[0], "blocks" if blocks else "primitive")
        self.assertEqual([blocks_paper(A)[0] for A in (ALL_24, CYCLE_24)], ["primitive", "blocks"])
        self.assertEqual(blocks_paper((2, ((1, 0),))), ("primitive", ((),)))

    def test_rows(self):
        five = (5, ((1, 2, 3, 4, 0),))
        # From 0 and y the letter leads to 1 and y + 1, and so on.
        rows = tuple(tuple((x, (x + y) % 5, 1) for x in range(4)) for y in range(1, 5))
        self.assertIs(takes_blocks(five, ("primitive", rows)), True)
        back = tuple(tuple((-x % 5, (y - x) % 5, -1) for x in range(4)) for y in range(1, 5))
        self.assertIs(takes_blocks(five, ("primitive", back)), True)
        longer = tuple(row + row for row in rows)
        self.assertIs(takes_blocks(five, ("primitive", longer)), True)
        for wrong in (rows[:3], rows + rows[:1], rows[:1] * 4, list(rows), rows[:3] + (rows[3][::-1],),
                      rows[:3] + (rows[3][:2],), rows[:3] + (rows[3][:3] + ((3, 2, True),),), rows[:3] + (list(rows[3]),),
                      rows[:3] + (rows[3] + ((0, 1, 2),),), rows[:3] + (rows[3] + ((0, 5, 1),),)):
            self.assertIs(takes_blocks(five, ("primitive", wrong)), False, wrong)
        # The other sheet of a pair may stand first.
        turned = tuple(tuple((v, u, i) for u, v, i in row) for row in rows)
        self.assertIs(takes_blocks(five, ("primitive", turned)), True)
        self.assertIs(takes_blocks(SIX, ("blocks", (0, 1, 0, 1, 0, 1))), True)
        for wrong in ((0, 0, 0, 0, 0, 0), (0, 1, 2, 3, 4, 5), (1, 0, 1, 0, 1, 0), (0, True, 0, 1, 0, 1),
                      [0, 1, 0, 1, 0, 1], (0, 0, 1, 1, 2, 2), (0, 2, 0, 2, 0, 2), (0, 1, 0, 1, 0)):
            self.assertIs(takes_blocks(SIX, ("blocks", wrong)), False, wrong)


def colourings(d):
    """All rows in first numbering."""
    rows = [()]
    for _ in range(d):
        rows = [row + (colour,) for row in rows for colour in range(max(row, default=-1) + 2)]
    return rows


class Wrong(unittest.TestCase):
    def test_papers_of_all_kinds(self):
        for value in VALUES + [("alike",), ("over",), ("galois",), ("blocks",), ("primitive",), ("none",), ("apart",)]:
            self.assertIs(takes_alike(S, S, value), False)
            self.assertIs(takes_over(S, S, value), False)
            self.assertIs(takes_galois(S, value), False)
            self.assertIs(takes_blocks(S, value), False)
        for head in ("alike", "over", "galois", "blocks", "primitive", "none", "apart"):
            for value in VALUES:
                paper = (head, value)
                self.assertIs(takes_alike(S, S, paper), alike_by_words(S, S, paper))
                self.assertIs(takes_over(S, S, paper), over_by_words(S, S, paper))
                self.assertIs(takes_galois(S, paper), galois_by_words(S, paper))
                self.assertIs(takes_blocks(S, paper), blocks_by_words(S, paper))
        for one, two in itertools.product(VALUES, repeat=2):
            paper = ("uneven", one, two)
            self.assertIs(takes_galois(S, paper), galois_by_words(S, paper))

    def test_malformed(self):
        rank_one = lambda value: system(value) and connected(value) and len(value[1]) == 1
        joined = lambda value: system(value) and connected(value)
        more = lambda value: joined(value) and value[0] > 1
        anything = lambda value: True
        for function in (alike_paper, over_paper):
            malformed_in_each_place(self, function, (SIX, SIX), (rank_one, rank_one))
        for function in (takes_alike, takes_over):
            malformed_in_each_place(self, function, (SIX, SIX, ("alike", ())), (rank_one, rank_one, anything))
        malformed_in_each_place(self, galois_paper, (S,), (joined,))
        malformed_in_each_place(self, takes_galois, (S, ()), (joined, anything))
        malformed_in_each_place(self, blocks_paper, (S,), (more,))
        malformed_in_each_place(self, takes_blocks, (S, ()), (more, anything))

    def test_malformed_systems(self):
        apart = (3, ((1, 0, 2), (0, 1, 2), (0, 1, 2)))
        for function, paper in ((alike_paper, ()), (over_paper, ()), (takes_alike, (None,)), (takes_over, (None,))):
            malformed(self, function, (S, apart) + paper, (apart, S) + paper, (S, SIX) + paper, (SIX, S) + paper,
                      ((0, ()), (0, ())) + paper, ((2, ()), (2, ())) + paper)
        malformed(self, galois_paper, (apart,), ((0, ()),), ((25, ((0,) * 25,)),))
        malformed(self, takes_galois, (apart, ()), ((0, ()), ("galois", ())))
        malformed(self, blocks_paper, (apart,), ((1, ()),), ((1, ((0,),)),), ((0, ()),))
        malformed(self, takes_blocks, (apart, ()), ((1, ((0,),)), ("primitive", ())), ((0, ()), ("primitive", ())))


if __name__ == "__main__":
    unittest.main()
