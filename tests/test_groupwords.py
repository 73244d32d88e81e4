"""Points 17.1 and 17.11 to 17.13: papers of words of a free group, of indexes and of links, and their judges."""

import math
import random
import unittest
from fractions import Fraction

from branchsheets.fibreproducts import least_unlike_fixed
from branchsheets.finiteindex import folded_system, schreier_words
from branchsheets.groupjudges import takes_index, takes_linked, takes_product
from branchsheets.grouppapers import index_paper, linked_paper, product_paper
from branchsheets.systems import renumbered_system
from helpers import connected, cycle_row, letters_of, malformed, malformed_in_each_place, orbit_of, permutation
from helpers import random_permutation, random_systems, refused, swap_row, system, walk, whole, word, words_to
from judging import ahead_of_papers, form, integers, judged, opposite, shortened, strangers_judged

PAIR = ((1, 2), (1, -2))


def things_of_slate(words, slate):
    """Point 17.11: the reduced words for which the rows stand, or None."""
    if not isinstance(slate, tuple):
        return None
    things = []
    for row in slate:
        if form(row, "letter", 1) and whole(row[1]) and 1 <= row[1] <= len(words):
            thing = shortened(words[row[1] - 1])
        elif form(row, "turned", 1) and whole(row[1]) and 0 <= row[1] < len(things):
            thing = opposite(things[row[1]])
        elif form(row, "times", 2) and all(whole(i) and 0 <= i < len(things) for i in row[1:]):
            thing = shortened(things[row[1]] + things[row[2]])
        else:
            return None
        if len(thing) > 4000:
            return None
        things.append(thing)
    return things


def perms_of(perms, k, n):
    return (whole(n) and 1 <= n <= 1000 and isinstance(perms, tuple) and len(perms) == k
            and all(permutation(p) and len(p) == n for p in perms))


def closed(n, perms, w):
    return walk((n, perms), 0, w) == 0


def product_by_words(k, words, w, paper):
    """Point 17.11."""
    if form(paper, "product", 1):
        things = things_of_slate(words, paper[1])
        return things is not None and shortened(w) == (things[-1] if things else ())
    if form(paper, "sheets", 2):
        _, n, perms = paper
        return perms_of(perms, k, n) and all(closed(n, perms, u) for u in words) and not closed(n, perms, w)
    return False


def schreier_by_trying(S):
    """Point 6.2, with least words that are found by trying all words."""
    n, perms = S
    k = len(perms)
    heads = {}
    for w in words_to(k, n):
        heads.setdefault(walk(S, 0, w), w)
        if len(heads) == n:
            break
    rows = [shortened(heads[y] + (i,) + opposite(heads[perms[i - 1][y]])) for y in range(n) for i in range(1, k + 1)]
    return [w for w in rows if w]


def index_by_words(k, words, paper):
    """Point 17.12."""
    if form(paper, "index", 3):
        _, S, slate, picks = paper
        if not (isinstance(S, tuple) and len(S) == 2 and perms_of(S[1], k, S[0]) and len(orbit_of(S[1], 0)) == S[0]):
            return False
        things = things_of_slate(words, slate)
        if things is None or not all(closed(*S, u) for u in words):
            return False
        told = schreier_by_trying(S)
        return integers(picks, len(told)) and all(0 <= i < len(things) and things[i] == w for i, w in zip(picks, told))
    if form(paper, "loose", 2):
        _, n, arcs = paper
        if not (whole(n) and 1 <= n <= 1000 and isinstance(arcs, tuple) and all(integers(arc, 3) for arc in arcs)):
            return False
        if not all(0 <= x < n and 1 <= i <= k and 0 <= y < n for x, i, y in arcs) or list(arcs) != sorted(arcs):
            return False
        if len({arc[:2] for arc in arcs}) < len(arcs) or len({arc[1:] for arc in arcs}) < len(arcs):
            return False
        ahead = {(x, i): y for x, i, y in arcs}
        ahead.update({(y, -i): x for x, i, y in arcs})
        reached = {0}
        for _ in range(n):
            reached |= {y for (x, _), y in ahead.items() if x in reached}
        for u in words:
            x = 0
            for i in shortened(u):
                x = ahead.get((x, i))
            if x != 0:
                return False
        return len(reached) == n and any((x, i) not in ahead for x in range(n) for i in range(1, k + 1))
    return False


def random_word(source, k, most):
    return tuple(source.choice(letters_of(k)) for _ in range(source.randint(0, most)))


def random_words(source):
    k = source.randint(1, 3)
    return k, tuple(random_word(source, k, 6) for _ in range(source.randint(0, 4)))


def made_word(source, k, words):
    w = ()
    for _ in range(source.randint(0, 4)):
        if words:
            u = source.choice(words)
            w += u if source.random() < 0.5 else opposite(u)
    return w + (random_word(source, k, 3) if source.random() < 0.4 else ())


def leads_back(k, words, w):
    """True if the reduced word leads 0 to 0 in the folded system (point 6.5)."""
    _, arcs = folded_system(k, words)
    ahead = {(x, i): y for x, i, y in arcs}
    ahead.update({(y, -i): x for x, i, y in arcs})
    x = 0
    for i in shortened(w):
        x = ahead.get((x, i))
    return x == 0


class Products(unittest.TestCase):
    def test_papers(self):
        source = random.Random(11)
        kinds = set()
        for seed in range(250):
            k, words = random_words(source)
            w = made_word(source, k, words)
            paper = product_paper(k, words, w)
            kinds.add(paper[0])
            self.assertEqual(paper[0], "product" if leads_back(k, words, w) else "sheets")
            judged(self, takes_product, product_by_words, (k, words, w), paper, seed, 12)
        self.assertEqual(kinds, {"product", "sheets"})

    def test_never_both(self):
        source = random.Random(12)
        for _ in range(60):
            k, words = random_words(source)
            w = made_word(source, k, words)
            is_in = leads_back(k, words, w)
            for _ in range(40):
                n = source.randint(1, 5)
                perms = tuple(random_permutation(source, n) for _ in range(k))
                if takes_product(k, words, w, ("sheets", n, perms)):
                    self.assertFalse(is_in)
                rows = tuple(source.choice([("letter", source.randint(1, max(1, len(words)))),
                                            ("turned", source.randrange(max(1, at))),
                                            ("times", source.randrange(max(1, at)), source.randrange(max(1, at)))])
                             for at in range(source.randint(0, 6)))
                if takes_product(k, words, w, ("product", rows)):
                    self.assertTrue(is_in)

    def test_told(self):
        rows = (("letter", 1), ("letter", 2), ("turned", 1), ("times", 2, 0))
        self.assertIs(takes_product(2, PAIR, (2, 2), ("product", rows)), True)
        self.assertIs(takes_product(2, PAIR, (2, 1, -1, 2), ("product", rows)), True)
        self.assertIs(takes_product(2, PAIR, (2, 2), ("product", rows[:3])), False)
        self.assertIs(takes_product(2, PAIR, (2, 2), ("product", rows[:3] + (("times", 0, 2),))), False)
        self.assertIs(takes_product(2, PAIR, (), ("product", ())), True)
        self.assertIs(takes_product(2, PAIR, (1, 2, -2, -1), ("product", ())), True)
        self.assertIs(takes_product(2, PAIR, (1,), ("product", ())), False)
        for wrong in (("letter", 3), ("letter", 0), ("letter", -1), ("letter", True), ("turned", 3), ("times", 0, -1),
                      ("turned", True), ["letter", 1], ("letter", 1, 1), ("times", 0), None, ()):
            self.assertIs(takes_product(2, PAIR, (2, 2), ("product", rows[:3] + (wrong, rows[3]))), False, wrong)
        # Each row stands for a reduced word, also that of a letter.
        long = ((1, -1, 2, 2, -2), (-2, 1))
        self.assertIs(takes_product(2, long, (1,), ("product", (("letter", 1), ("letter", 2), ("times", 0, 1)))), True)

    def test_long_rows(self):
        words = ((1,) * 2000, (1, 2), (-2,) * 1999 + (1,))
        rows = (("letter", 1), ("times", 0, 0))
        self.assertIs(takes_product(2, words, (1,) * 2000, ("product", rows + (("letter", 1),))), True)
        # 4000 letters are taken, and not one more, though only their product with others is asked for.
        back = (("turned", 0), ("times", 1, 2))
        self.assertIs(takes_product(2, words, (1,) * 2000, ("product", rows + back)), True)
        more = rows + (("letter", 2), ("times", 1, 2), ("turned", 2), ("times", 3, 4), ("turned", 0), ("times", 5, 6))
        self.assertIs(takes_product(2, words, (1,) * 2000, ("product", more)), False)
        self.assertIs(product_by_words(2, words, (1,) * 2000, ("product", more)), False)
        # Written behind one another these have more than 4000 letters, reduced they have fewer.
        short = rows + (("turned", 0), ("times", 1, 1)) + (("letter", 1),)
        self.assertIs(takes_product(2, words, (1,) * 2000, ("product", short)), False)
        for end, fits in (((1,), False), ((-1,), True), ((2,), False), ((-1, 2), True), ((-1, 2, 2), False),
                          ((-1, -1, 2, 2), True), ((-1, -1, 2, 2, 2), False)):
            told = ("product", rows + (("letter", 2), ("times", 1, 2), ("letter", 1)))
            words = ((1,) * 2000, end)
            self.assertIs(takes_product(2, words, (1,) * 2000, told), fits)
            self.assertIs(product_by_words(2, words, (1,) * 2000, told), fits)
        joined = rows + (("turned", 1), ("times", 1, 2), ("letter", 1))
        self.assertIs(takes_product(2, words, (1,) * 2000, ("product", joined)), True)

    def test_sheets(self):
        self.assertIs(takes_product(2, PAIR, (1, 1), ("sheets", 3, ((1, 2, 0), (1, 0, 2)))), True)
        self.assertIs(takes_product(2, PAIR, (2, 2), ("sheets", 3, ((1, 2, 0), (1, 0, 2)))), False)
        for wrong in (("sheets", 3, ((1, 2, 0),)), ("sheets", 3, ((1, 2, 0), (1, 0, 2), (0, 1, 2))),
                      ("sheets", 4, ((1, 2, 0), (1, 0, 2))), ("sheets", 3, [(1, 2, 0), (1, 0, 2)]),
                      ("sheets", 3, ((1, 2, 0), (True, 0, 2))), ("sheets", 3, ((1, 2, 0), (1, 0, 1)))):
            self.assertIs(takes_product(2, PAIR, (1, 1), wrong), False)
        for n in (1, 2, 999, 1000, 1001):
            told = ("sheets", n, (cycle_row(n),))
            self.assertIs(takes_product(1, (), (1,), told), 1 < n <= 1000)
            # Sheets that are not reached may be there, too.
            apart = ("sheets", n, (swap_row(n, 0, n - 1),))
            self.assertIs(takes_product(1, ((1, 1),), (1,), apart), 1 < n <= 1000)
        self.assertIs(takes_product(1, (), (1,), ("sheets", True, ((0,),))), False)
        self.assertIs(takes_product(1, (), (1,), ("sheets", 0, ((),))), False)

    def test_greatest(self):
        source = random.Random(13)
        for k, sizes in ((1, [300, 90]), (2, [150, 150]), (2, [4] * 60), (12, [2] * 150), (3, [100] * 3)):
            words = []
            for n in sizes:
                w = ()
                while len(w) < n:
                    w = shortened(w + (source.choice(letters_of(k)),))
                words.append(w)
            words = tuple(words)
            left = 400 - sum(sizes)
            for w in (shortened(words[0] + opposite(words[-1]))[:left], random_word(source, k, left), (1,) * left):
                paper = product_paper(k, words, w)
                self.assertEqual(paper[0], "product" if leads_back(k, words, w) else "sheets")
                self.assertIs(takes_product(k, words, w, paper), True)

    def test_large(self):
        self.assertEqual(product_paper(1, ((1,) * 200,), (1,) * 200)[0], "product")
        refused(self, "large", product_paper, 1, ((1,) * 200,), (1,) * 201)
        refused(self, "large", product_paper, 1, ((1, -1) * 100, (1,) * 101), (1,) * 100)
        # The judge takes words of any length.
        self.assertIs(takes_product(1, ((1,) * 2000,), (1,) * 2000, ("product", (("letter", 1),))), True)

    def test_wrong(self):
        for args in ((2, PAIR, (2, 2)), (2, PAIR, (1,)), (1, (), ()), (1, ((1,),), (1,))):
            strangers_judged(self, takes_product, product_by_words, args)
        rank = lambda value: whole(value) and 2 <= value <= 12
        words = lambda value: isinstance(value, tuple) and all(word(w, 2) for w in value)
        fits = (rank, words, lambda value: word(value, 2))
        malformed_in_each_place(self, product_paper, (2, PAIR, (1,)), fits)
        ahead_of_papers(self, takes_product, (2, PAIR, (1,)), fits)
        malformed(self, product_paper, (1, PAIR, ()), (0, (), ()), (13, (), ()), (1, (), (1,) * 2001), (1, ((2,),), ()),
                  (2, ((1,) * 401, 3), ()), (2, ((1,) * 401,), (3,)), (True, (), ()))
        malformed(self, takes_product, (1, PAIR, (), None), (0, (), (), ("product", ())), (13, (), (), ("product", ())),
                  (1, (), (1,) * 2001, ("sheets", 2, ((1, 0),))), (True, (), (), ("product", ())))


class Indexes(unittest.TestCase):
    def test_papers(self):
        source = random.Random(14)
        kinds = set()
        for seed in range(200):
            k, words = random_words(source)
            if seed % 3 == 0:
                S = random_systems(seed, 1, 4, 2, lambda S: connected(S) and len(S[1]) > 0)[0]
                k, words = len(S[1]), schreier_words(S, 0)
                words = tuple(source.sample(words, len(words)))
            paper = index_paper(k, words)
            kinds.add(paper[0])
            n, arcs = folded_system(k, words)
            self.assertEqual(paper[0], "index" if len(arcs) == n * k else "loose")
            if paper[0] == "index":
                self.assertEqual(paper[1][0], n)
            judged(self, takes_index, index_by_words, (k, words), paper, seed, 15)
        self.assertEqual(kinds, {"index", "loose"})

    def test_subgroups_of_told_systems(self):
        source = random.Random(15)
        for S in random_systems(16, 40, 6, 3, lambda S: connected(S) and len(S[1]) > 0):
            k = len(S[1])
            words = list(schreier_words(S, 0))
            self.assertEqual(words, schreier_by_trying(S))
            for _ in range(10):
                i, j = source.randrange(len(words)), source.randrange(len(words))
                if i != j:
                    words[i] = words[i] + (words[j] if source.random() < 0.5 else opposite(words[j]))
            paper = index_paper(k, tuple(words))
            if sum(len(w) for w in words) <= 400:
                self.assertEqual(paper[0], "index")
                self.assertEqual(paper[1][0], S[0])
                self.assertIs(takes_index(k, tuple(words), paper), True)
            # One word less makes a subgroup of infinite index: there are too few for a basis.
            if k > 1:
                less = index_paper(k, tuple(words[1:]))
                self.assertEqual(less[0], "loose")
                self.assertIs(takes_index(k, tuple(words[1:]), less), True)
                self.assertIs(takes_index(k, tuple(words[1:]), paper), False)

    def test_never_both(self):
        source = random.Random(17)
        for _ in range(80):
            k, words = random_words(source)
            paper = index_paper(k, words)
            for _ in range(30):
                n = source.randint(1, 4)
                if paper[0] == "loose":
                    S = (n, tuple(random_permutation(source, n) for _ in range(k)))
                    rows = tuple(("letter", j + 1) for j in range(len(words)))
                    picks = tuple(source.randrange(max(1, len(words))) for _ in range(n * (k - 1) + 1))
                    self.assertIs(takes_index(k, words, ("index", S, rows, picks)), False)
                else:
                    arcs = tuple(sorted((x, i, x if source.random() < 0.3 else (x + 1) % n)
                                        for x in range(n) for i in range(1, k + 1) if source.random() < 0.8))
                    self.assertIs(takes_index(k, words, ("loose", n, arcs)), False)

    def test_told(self):
        self.assertIs(takes_index(1, ((1, 1),), ("index", (2, ((1, 0),)), (("letter", 1),), (0,))), True)
        self.assertIs(takes_index(2, ((1,),), ("loose", 1, ((0, 1, 0),))), True)
        # A system that is not the told one will do.
        S = (3, ((2, 0, 1), (0, 1, 2)))
        rows = schreier_words(S, 0)
        self.assertNotEqual(S, index_paper(2, rows)[1])
        slate = tuple(("letter", j + 1) for j in range(4))
        self.assertIs(takes_index(2, rows, ("index", S, slate, (0, 1, 2, 3))), True)
        for wrong in ((0, 1, 2), (0, 1, 3, 2), (0, 1, 2, 4), (0, 1, 2, -1), (0, True, 2, 3), [0, 1, 2, 3], (0, 1, 2, 3, 3)):
            self.assertIs(takes_index(2, rows, ("index", S, slate, wrong)), False, wrong)
        # A row for the inverse of a Schreier word does not stand for it.
        turned = slate[:3] + (("letter", 4), ("turned", 3))
        self.assertIs(takes_index(2, rows, ("index", S, turned, (0, 1, 2, 3))), True)
        self.assertIs(takes_index(2, rows, ("index", S, turned, (0, 1, 2, 4))), False)
        for T in ((3, ((2, 0, 1),)), (4, S[1]), [3, S[1]], (3, list(S[1])), (3, ((0, 1, 2), (0, 1, 2))), (3, S[1], 0),
                  (6, ((2, 0, 1, 5, 3, 4), (0, 1, 2, 3, 4, 5))), (1, ((0,), (0,)))):
            self.assertIs(takes_index(2, rows, ("index", T, slate, (0, 1, 2, 3))), False, T)

    def test_words_that_are_not_closed(self):
        told = ("index", (2, ((1, 0),)), (("letter", 1),), (0,))
        self.assertIs(takes_index(1, ((1, 1),), told), True)
        self.assertIs(takes_index(1, ((1, 1), (1, 1, 1, 1)), told), True)
        self.assertIs(takes_index(1, ((1, 1), (1,)), told), False)

    def test_arcs_of_other_letters(self):
        self.assertIs(takes_index(2, ((1,),), ("loose", 1, ((0, 1, 0),))), True)
        for arcs in (((0, 1, 0), (0, 3, 0)), ((0, 0, 0), (0, 1, 0)), ((0, -2, 0), (0, 1, 0)), ((0, -1, 0),)):
            self.assertIs(takes_index(2, ((1,),), ("loose", 1, arcs)), False)
        self.assertIs(takes_index(1, ((1,),), ("loose", 1, ((0, 1, 0), (0, 2, 0)))), False)
        # Two arcs of one letter from one point, or to one point.
        self.assertIs(takes_index(2, ((1,),), ("loose", 3, ((0, 1, 0), (0, 2, 1), (0, 2, 2)))), False)
        self.assertIs(takes_index(2, ((1,),), ("loose", 3, ((0, 1, 0), (0, 2, 1), (2, 2, 1)))), False)
        self.assertIs(takes_index(2, ((1,),), ("loose", 3, ((0, 1, 0), (0, 2, 1), (2, 2, 0)))), True)

    def test_partial_systems(self):
        words = ((1, 2),)
        fine = ("loose", 2, ((0, 1, 1), (1, 2, 0)))
        self.assertIs(takes_index(2, words, fine), True)
        self.assertIs(takes_index(2, words, ("loose", 2, ((0, 1, 1), (0, 2, 0), (1, 2, 0)))), False)
        self.assertIs(takes_index(2, words, ("loose", 2, ((0, 1, 1), (1, 1, 0), (1, 2, 0)))), True)
        full = ((0, 1, 1), (0, 2, 1), (1, 1, 0), (1, 2, 0))
        self.assertIs(takes_index(2, words, ("loose", 2, full)), False)
        for wrong in (((1, 2, 0), (0, 1, 1)), ((0, 1, 1), (0, 1, 1), (1, 2, 0)), ((0, 1, 1), (1, 2, 0), (1, 2, 1)),
                      ((0, 1, 1), (1, 2, 0), (2, 1, 0)), ((0, 1, 1), (1, 3, 0)), ((0, 1, 1), (1, 0, 0)), (),
                      ((0, 1, 1), (1, -2, 0)), ((0, 1, True), (1, 2, 0)), ([0, 1, 1], (1, 2, 0)), ((0, 1, 1),),
                      ((0, 1, 1), (1, 1, 1), (1, 2, 0))):
            self.assertIs(takes_index(2, words, ("loose", 2, wrong)), False, wrong)
        # Each point must be reached, also by opposite letters, and there are at most 1000.
        self.assertIs(takes_index(2, words, ("loose", 3, fine[2])), False)
        self.assertIs(takes_index(2, words, ("loose", 3, fine[2] + ((2, 2, 1),))), True)
        for n in (1, 2, 1000, 1001):
            arcs = tuple((x, 1, x + 1) for x in range(n - 1))
            self.assertIs(takes_index(1, ((1, -1),), ("loose", n, arcs)), n <= 1000)
        for n in (0, -1, True, "1", None, (1,)):
            self.assertIs(takes_index(1, (), ("loose", n, ())), False)

    def test_great_systems(self):
        for n in (1, 999, 1000, 1001):
            for k, perms in ((1, (cycle_row(n),)), (2, (cycle_row(n), tuple(range(n))))):
                heads = [(1,) * y if y <= n // 2 else (-1,) * (n - y) for y in range(n)]
                rows = [shortened(heads[y] + (i,) + opposite(heads[perms[i - 1][y]]))
                        for y in range(n) for i in range(1, k + 1)]
                words = tuple(w for w in rows if w)
                slate = tuple(("letter", j + 1) for j in range(len(words)))
                picks = tuple(range(len(words)))
                self.assertEqual(len(words), n * (k - 1) + 1)
                self.assertIs(takes_index(k, words, ("index", (n, perms), slate, picks)), n <= 1000)
                if n == 1000 and k == 2:
                    picks = picks[1:2] + picks[:1] + picks[2:]
                    self.assertIs(takes_index(k, words, ("index", (n, perms), slate, picks)), False)

    def test_long_rows(self):
        words = ((1,) * 1500, (1,) * 1501)
        rows = (("letter", 1), ("turned", 0), ("letter", 2), ("times", 1, 2))
        one = (1, ((0,),))
        self.assertIs(takes_index(1, words, ("index", one, rows, (3,))), True)
        more = (("letter", 1), ("times", 0, 0), ("times", 0, 1)) + tuple(
            row[:1] + tuple(i + 3 if row[0] != "letter" else i for i in row[1:]) for row in rows)
        self.assertIs(takes_index(1, words, ("index", one, more, (6,))), False)

    def test_large(self):
        self.assertEqual(index_paper(1, ((1,) * 200, (1,) * 200))[1][0], 200)
        self.assertEqual(index_paper(1, ((1,) * 400,))[1][0], 400)
        self.assertEqual(index_paper(2, ((1,) * 400,))[:2], ("loose", 400))
        refused(self, "large", index_paper, 1, ((1,) * 401,))
        refused(self, "large", index_paper, 1, ((1, -1) * 200, (1,)))
        self.assertIs(takes_index(1, ((1,) * 401,), ("loose", 1, ())), False)
        self.assertIs(takes_index(2, ((1,) * 1000,), ("loose", 1, ((0, 1, 0),))), True)

    def test_wrong(self):
        for args in ((1, ((1,),)), (2, ((1,),)), (1, ()), (1, ((1, -1),))):
            strangers_judged(self, takes_index, index_by_words, args)
        rank = lambda value: whole(value) and 2 <= value <= 12
        words = lambda value: isinstance(value, tuple) and all(word(w, 2) for w in value)
        malformed_in_each_place(self, index_paper, (2, PAIR), (rank, words))
        ahead_of_papers(self, takes_index, (2, PAIR), (rank, words))
        malformed(self, index_paper, (1, PAIR), (0, ()), (13, ()), (1, ((1,) * 2001,)), (1, ((1,) * 401, (2,))))
        malformed(self, takes_index, (1, PAIR, None), (0, (), ("loose", 1, ())), (13, (), ("loose", 1, ())))


def determinant(table):
    """By expanding; for few rows."""
    if not table:
        return Fraction(1)
    return sum((-1) ** j * table[0][j] * determinant([row[:j] + row[j + 1:] for row in table[1:]])
               for j in range(len(table)) if table[0][j])


def fixed(S, w):
    return sum(walk(S, x, w) == x for x in range(S[0]))


def fraction(value):
    return (isinstance(value, tuple) and len(value) == 2 and all(whole(n) for n in value) and value[1] > 0
            and math.gcd(*value) == 1)


def linked_by_words(S, T, paper):
    """Point 17.13."""
    if form(paper, "word", 1):
        w = paper[1]
        return word(w, len(S[1])) and len(w) <= 400 and fixed(S, w) != fixed(T, w)
    if form(paper, "linked", 1) and S[0] == T[0] and isinstance(paper[1], tuple) and len(paper[1]) == S[0]:
        X = paper[1]
        if not all(isinstance(row, tuple) and len(row) == S[0] and all(fraction(a) for a in row) for row in X):
            return False
        for p, q in zip(S[1], T[1]):
            if any(X[p[x]][q[y]] != X[x][y] for x in range(S[0]) for y in range(S[0])):
                return False
        return determinant([[Fraction(*a) for a in row] for row in X]) != 0
    return False


POINTS = (7, ((1, 2, 3, 4, 5, 6, 0), (0, 1, 4, 3, 2, 6, 5)))
LINES = (7, ((1, 2, 3, 4, 5, 6, 0), (0, 1, 3, 2, 6, 5, 4)))


def link_pairs():
    source = random.Random(18)
    rows = [((0, ()), (0, ())), ((1, ()), (1, ())), ((3, ()), (3, ())), ((0, ((),)), (1, ((0,),))), ((2, ()), (3, ())),
            ((2, ((1, 0),)), (2, ((0, 1),)))]
    for S in random_systems(19, 60, 5, 2):
        rows.append((S, renumbered_system(S, random_permutation(source, S[0]))))
        d = source.choice([S[0], S[0], source.randint(0, 5)])
        rows.append((S, (d, tuple(random_permutation(source, d) for _ in S[1]))))
    return rows


class Links(unittest.TestCase):
    def test_papers(self):
        kinds = set()
        for seed, (S, T) in enumerate(link_pairs()):
            paper = linked_paper(S, T)
            kinds.add(paper[0])
            judged(self, takes_linked, linked_by_words, (S, T), paper, seed, 20)
            w = least_unlike_fixed(S, T)
            self.assertEqual(paper[0], "linked" if w is None else "word")
            self.assertTrue(w is None or paper == ("word", w))
        self.assertEqual(kinds, {"linked", "word"})

    def test_never_both(self):
        for S, T in link_pairs():
            words = words_to(len(S[1]), 4)
            unlike = [w for w in words if takes_linked(S, T, ("word", w))]
            self.assertEqual(unlike, [w for w in words if fixed(S, w) != fixed(T, w)])
            if linked_paper(S, T)[0] == "linked":
                self.assertEqual(unlike, [])

    def test_points_and_lines(self):
        for S, T in ((POINTS, LINES), (LINES, POINTS), (POINTS, POINTS)):
            paper = linked_paper(S, T)
            self.assertEqual(paper[0], "linked")
            self.assertIs(takes_linked(S, T, paper), True)
            self.assertIs(linked_by_words(S, T, paper), True)
        # Constant on the parts, but of no determinant.
        flat = (((1, 1),) * 7,) * 7
        self.assertIs(takes_linked(POINTS, LINES, ("linked", flat)), False)
        thirds = tuple(tuple((2 * n + 1, 3) if n != 1 else (1, 1) for n, _ in row) for row in linked_paper(POINTS, LINES)[1])
        self.assertIs(takes_linked(POINTS, LINES, ("linked", thirds)), linked_by_words(POINTS, LINES, ("linked", thirds)))

    def test_forms(self):
        S = (2, ((1, 0),))
        for X, fits in (((((1, 1), (0, 1)), ((0, 1), (1, 1))), True), ((((1, 2), (1, 3)), ((1, 3), (1, 2))), True),
                        ((((1, 2), (1, 2)), ((1, 2), (1, 2))), False), ((((1, 1), (2, 1)), ((3, 1), (1, 1))), False),
                        ((((2, 2), (0, 1)), ((0, 1), (2, 2))), False), ((((-1, 1), (0, 1)), ((0, 1), (-1, 1))), True),
                        ((((1, -1), (0, 1)), ((0, 1), (1, -1))), False), ((((1, 1), (0, 2)), ((0, 2), (1, 1))), False),
                        (((1, 0), (0, 1)), False), ((((1, 1), (0, 1)),), False), ([((1, 1), (0, 1)), ((0, 1), (1, 1))], False),
                        ((((True, 1), (0, 1)), ((0, 1), (True, 1))), False), ((), False),
                        ((((1, 1), (0, 1), (0, 1)), ((0, 1), (1, 1), (0, 1))), False)):
            self.assertIs(takes_linked(S, S, ("linked", X)), fits, X)
        self.assertIs(takes_linked((0, ()), (0, ()), ("linked", ())), True)
        self.assertIs(takes_linked((0, ()), (1, ()), ("linked", ())), False)
        self.assertIs(takes_linked((0, ()), (1, ()), ("word", ())), True)

    def test_words(self):
        S, T = (2, ((1, 0),)), (2, ((0, 1),))
        for n in (1, 399, 400, 401, 2000, 2001):
            self.assertIs(takes_linked(S, T, ("word", (1,) * n)), n % 2 == 1 and n <= 400)
        for wrong in ((0,), (2,), (True,), [1], "1", 1, None, ((1,),)):
            self.assertIs(takes_linked(S, T, ("word", wrong)), False)
        three, unit = (3, ((1, 2, 0),)), (3, ((0, 1, 2),))
        for n in (397, 398, 399, 400, 401):
            self.assertIs(takes_linked(three, unit, ("word", (1,) * n)), n % 3 > 0 and n <= 400)

    def test_great(self):
        source = random.Random(20)
        for S in random_systems(21, 10, 24, 2) + [(24, ())]:
            f = random_permutation(source, S[0])
            T = renumbered_system(S, f)
            X = tuple(tuple((7, 3) if f[x] == y else (1, 5) for y in range(S[0])) for x in range(S[0]))
            self.assertIs(takes_linked(S, T, ("linked", X)), True)
            self.assertIs(takes_linked(S, T, ("linked", (((1, 5),) * S[0],) * S[0])), S[0] < 2)
        for _ in range(10):
            S = (8, tuple(random_permutation(source, 8) for _ in range(2)))
            for T in (renumbered_system(S, random_permutation(source, 8)), (8, S[1][::-1])):
                self.assertIs(takes_linked(S, T, linked_paper(S, T)), True)
        # Not 0, though some great number divides the determinant.
        for n in (2 ** 61 - 1, 2 ** 61 * (2 ** 61 - 1), 10 ** 200, 10007):
            self.assertIs(takes_linked((1, ()), (1, ()), ("linked", (((n, 1),),))), True)
            self.assertIs(takes_linked((2, ()), (2, ()), ("linked", (((n, 1), (3, 1)), ((0, 1), (n, 7))))), n % 7 > 0)
        big = tuple(tuple((source.randint(1, 10 ** 60), 1) for _ in range(24)) for _ in range(24))
        self.assertIs(takes_linked((24, ()), (24, ()), ("linked", big)), True)
        self.assertIs(takes_linked((24, ()), (24, ()), ("linked", big[:23] + big[:1])), False)

    def test_errors(self):
        refused(self, "large", linked_paper, (9, ()), (8, ()))
        refused(self, "large", linked_paper, (8, ()), (9, ()))
        self.assertIs(takes_linked((9, ()), (8, ()), ("word", ())), True)
        for S, T in (((2, ((1, 0),)), (2, ((0, 1),))), ((1, ((0,),)), (1, ((0,),)))):
            strangers_judged(self, takes_linked, linked_by_words, (S, T))
        rank_one = lambda value: system(value) and len(value[1]) == 1
        S = (2, ((1, 0),))
        malformed_in_each_place(self, linked_paper, (S, S), (rank_one, rank_one))
        ahead_of_papers(self, takes_linked, (S, S), (rank_one, rank_one))
        malformed(self, linked_paper, (S, (9, ())), ((9, ()), S))
        malformed(self, takes_linked, (S, (2, ()), ("word", ())), ((25, ()), (25, ()), ("word", ())))


if __name__ == "__main__":
    unittest.main()
