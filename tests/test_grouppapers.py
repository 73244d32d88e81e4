"""Points 17.1, 17.10, 5.5 and 5.6: papers of members and orders, and their judges."""

import itertools
import random
import unittest

from branchsheets.groupjudges import takes_member, takes_order
from branchsheets.grouppapers import member_paper, order_paper
from branchsheets.permgroups import group_order, is_member
from helpers import ALL_24, EVEN_24, all_permutations, cycle_row, group_list, inv, is_sheet_below, malformed
from helpers import malformed_in_each_place, mul, permutation, random_permutation, random_systems, swap_row, system, whole
from judging import ahead_of_papers, form, integers, judged, spoiled, strangers_judged

EMPTY = ((), ())
THREE = (3, ((1, 2, 0),))
LADDER = ((("letter", 1), ("times", 0, 0)), ((0, ((1, 0), (2, 1))),))
SMALL = random_systems(101, 30, 5, 3) + [(0, ()), (0, ((),)), (1, ()), (1, ((0,),)), (4, ()), (2, ((1, 0),)), THREE,
                                         (4, ((0, 1, 2, 3),)), (5, ((1, 2, 3, 4, 0), (0, 2, 4, 1, 3)))]


def perms_of_slate(S, slate):
    """Point 5.5: what the rows stand for, or None."""
    if not isinstance(slate, tuple):
        return None
    perms = []
    for row in slate:
        if form(row, "letter", 1) and whole(row[1]) and 1 <= abs(row[1]) <= len(S[1]):
            p = S[1][abs(row[1]) - 1]
            perms.append(p if row[1] > 0 else inv(p))
        elif form(row, "turned", 1) and whole(row[1]) and 0 <= row[1] < len(perms):
            perms.append(inv(perms[row[1]]))
        elif form(row, "times", 2) and all(whole(i) and 0 <= i < len(perms) for i in row[1:]):
            perms.append(mul(perms[row[1]], perms[row[2]]))
        else:
            return None
    return perms


def sifts(levels, p):
    """Point 5.5: whether p sifts to one, levels being triples of a sheet, its steps and the permutations."""
    for b, steps, perms in levels:
        if p[b] != b:
            found = [i for y, i in steps if y == p[b]]
            if not found:
                return False
            p = mul(p, inv(perms[found[0]]))
    return p == tuple(range(len(p)))


def levels_of_ladder(S, ladder):
    """Point 5.5: the levels of a ladder, or None."""
    if not (isinstance(ladder, tuple) and len(ladder) == 2 and isinstance(ladder[1], tuple)):
        return None
    perms = perms_of_slate(S, ladder[0])
    if perms is None:
        return None
    levels = []
    for level in ladder[1]:
        if not (isinstance(level, tuple) and len(level) == 2 and is_sheet_below(S[0])(level[0])):
            return None
        b, steps = level
        firsts = [first for first, _, _ in levels]
        if b in firsts or not (isinstance(steps, tuple) and all(integers(step, 2) for step in steps)):
            return None
        if list(steps) != sorted(steps) or len({y for y, _ in steps}) < len(steps) or b in [y for y, _ in steps]:
            return None
        for y, i in steps:
            if not (0 <= i < len(perms) and perms[i][b] == y and all(perms[i][x] == x for x in firsts)):
                return None
        levels.append((b, steps, perms))
    if not all(sifts(levels, p) for p in S[1]):
        return None
    for at, (_, steps, _) in enumerate(levels):
        for _, i in steps:
            for _, later, _ in levels[at:]:
                if not all(sifts(levels[at:], mul(perms[i], perms[j])) for _, j in later):
                    return None
    return levels


def member_by_words(S, p, paper):
    """Point 17.10."""
    if form(paper, "slate", 1):
        perms = perms_of_slate(S, paper[1])
        return perms is not None and p == (perms[-1] if perms else tuple(range(S[0])))
    if form(paper, "ladder", 1):
        levels = levels_of_ladder(S, paper[1])
        return levels is not None and not sifts(levels, p)
    return False


def order_by_words(S, paper):
    """Point 17.10."""
    if not (form(paper, "order", 2) and whole(paper[1])):
        return False
    levels = levels_of_ladder(S, paper[2])
    if levels is None:
        return False
    order = 1
    for _, steps, _ in levels:
        order *= len(steps) + 1
    return paper[1] == order


class Members(unittest.TestCase):
    def test_papers(self):
        source = random.Random(4)
        for seed, S in enumerate(SMALL):
            group = group_list(*S)
            ladder = order_paper(S)[2]
            for p in source.sample(all_permutations(S[0]), min(12, len(all_permutations(S[0])))):
                paper = member_paper(S, p)
                self.assertEqual(paper[0], "slate" if p in group else "ladder")
                judged(self, takes_member, member_by_words, (S, p), paper, seed, 10)
                # The other kind is not accepted: a ladder tells the group, and rows stand for members.
                self.assertIs(takes_member(S, p, ("ladder", ladder)), p not in group)

    def test_slates_of_members_alone(self):
        source = random.Random(5)
        for S in SMALL:
            group = group_list(*S)
            others = [p for p in all_permutations(S[0]) if p not in group]
            rows = []
            for at in range(30 if S[1] else 0):
                rows.append(source.choice([("letter", source.choice([1, -1]) * source.randint(1, len(S[1]))),
                                           ("turned", source.randrange(max(1, at))),
                                           ("times", source.randrange(max(1, at)), source.randrange(max(1, at)))]))
            for end in range(len(rows) + 1):
                slate = tuple(rows[:end])
                perms = perms_of_slate(S, slate)
                for p in source.sample(others, min(3, len(others))):
                    self.assertIs(takes_member(S, p, ("slate", slate)), False)
                if perms:
                    self.assertIs(takes_member(S, perms[-1], ("slate", slate)), True)

    def test_rows(self):
        S = (4, ((1, 2, 3, 0), (1, 0, 2, 3)))
        unit = (0, 1, 2, 3)
        rows = (("letter", 1), ("letter", -2), ("turned", 0), ("times", 0, 1), ("times", 3, 2), ("times", 2, 0))
        for end in range(1, 7):
            p = perms_of_slate(S, rows[:end])[-1]
            self.assertIs(takes_member(S, p, ("slate", rows[:end])), True)
        self.assertIs(takes_member(S, unit, ("slate", ())), True)
        self.assertIs(takes_member(S, S[1][0], ("slate", ())), False)
        # A product is done from left to right.
        self.assertIs(takes_member(S, (0, 2, 3, 1), ("slate", rows[:2] + (("times", 0, 1),))), True)
        self.assertIs(takes_member(S, (0, 2, 3, 1), ("slate", rows[:2] + (("times", 1, 0),))), False)
        for wrong in (("letter", 3), ("letter", 0), ("letter", True), ("letter", "1"), ("letter",), ("letter", 1, 1),
                      ("turned", 2), ("turned", -1), ("turned", False), ("turned", 0, 0), ("times", 0), ("times", 0, 2),
                      ("times", -1, 0), ("times", 0, True), ("times", 0, 0, 0), ["letter", 1], ("word", 1), (), None,
                      ("turned", None), ("times", None, 0), ("letter", (1,))):
            slate = rows[:2] + (wrong,) + (("times", 0, 1),)
            self.assertIs(takes_member(S, (0, 2, 3, 1), ("slate", slate)), False, wrong)

    def test_told(self):
        self.assertIs(takes_member(THREE, (2, 0, 1), ("slate", (("letter", -1),))), True)
        self.assertIs(takes_member(THREE, (0, 2, 1), ("ladder", LADDER)), True)
        self.assertIs(takes_member(THREE, (1, 2, 0), ("ladder", LADDER)), False)
        self.assertIs(takes_member((0, ()), (), ("slate", ())), True)
        self.assertIs(takes_member((0, ()), (), ("ladder", EMPTY)), False)
        self.assertIs(takes_member((2, ()), (1, 0), ("ladder", EMPTY)), True)
        self.assertIs(takes_member((2, ((1, 0),)), (1, 0), ("ladder", EMPTY)), False)

    def test_great(self):
        source = random.Random(6)
        for S in (ALL_24, EVEN_24, (24, (cycle_row(24),)), (24, tuple(swap_row(24, x, x + 1) for x in range(0, 24, 2)))):
            for p in [random_permutation(source, 24) for _ in range(3)] + [swap_row(24, 3, 17), cycle_row(24)]:
                paper = member_paper(S, p)
                self.assertEqual(paper[0], "slate" if is_member(S, p) else "ladder")
                self.assertIs(takes_member(S, p, paper), True)
                for other in (mul(p, swap_row(24, 0, 1)), inv(p)):
                    if paper[0] == "slate" and other != p:
                        self.assertIs(takes_member(S, other, paper), False)


class Orders(unittest.TestCase):
    def test_papers(self):
        for seed, S in enumerate(SMALL):
            paper = order_paper(S)
            self.assertEqual(paper[1], len(group_list(*S)))
            judged(self, takes_order, order_by_words, (S,), paper, seed, 40)

    def test_no_other_order(self):
        source = random.Random(7)
        for S in SMALL:
            paper = order_paper(S)
            for n in list(range(-1, 130)) + [paper[1] + 1, paper[1] * 2]:
                self.assertIs(takes_order(S, ("order", n, paper[2])), n == paper[1])
            # Whatever is accepted tells the order.
            for _ in range(40):
                other = spoiled(source, paper)
                if takes_order(S, other):
                    self.assertEqual(other[1], paper[1])

    def test_ladders_of_less_and_of_more(self):
        systems = [S for S in SMALL if S[0] == 4] + [(4, ((1, 2, 3, 0), (1, 0, 2, 3))), (4, ((1, 0, 3, 2),))]
        for S, T in itertools.product(systems, repeat=2):
            n, ladder = order_paper(T)[1:]
            paper = ("order", n, ladder)
            self.assertIs(takes_order(S, paper), order_by_words(S, paper))

    def test_levels(self):
        self.assertIs(takes_order(THREE, ("order", 3, LADDER)), True)
        rows, levels = LADDER
        longer = rows + (("letter", -1), ("turned", 2))
        # Any sheet may stand first, a level may have no steps, and rows may be left over.
        for fine in ((longer, levels), (longer, ((0, ((1, 3), (2, 2))),)), (rows, levels + ((1, ()),)),
                     (rows, ((1, ((0, 1), (2, 0))),)), (rows, levels + ((2, ()), (1, ())))):
            self.assertIs(takes_order(THREE, ("order", 3, fine)), True, fine)
        for wrong in ((rows, ((0, ((2, 1), (1, 0))),)), (rows, ((0, ((1, 0),)),)), (rows, ((0, ((1, 0), (1, 0), (2, 1))),)),
                      (rows, levels + levels), (rows, ((1, ()),) + levels), (rows, ((0, ((1, 0), (2, 0))),)),
                      (rows, ((0, ((1, 0), (2, 2))),)), (rows, ((0, ((1, 0), (2, -1))),)), (rows, ((3, ()),)),
                      (rows, levels + ((0, ()),)), (rows, ()), (rows, ((0, [(1, 0), (2, 1)]),)), (rows, [levels[0]]),
                      (rows[::-1], levels), (rows[:1], levels), ((), levels), (rows,), (rows, levels, ()),
                      (rows, ((0, ((0, 0), (1, 0), (2, 1))),)), (rows, ((False, levels[0][1]),)), None,
                      (rows, ((0, ((True, 0), (2, 1))),)), (rows, ((0, ((1, False), (2, 1))),)), (list(rows), levels)):
            self.assertIs(takes_order(THREE, ("order", 3, wrong)), False, wrong)
        for n in (1, 2, 6, True, "3", (3,), None):
            self.assertIs(takes_order(THREE, ("order", n, LADDER)), False)
        self.assertIs(takes_order((1, ()), ("order", 1, EMPTY)), True)
        self.assertIs(takes_order((1, ()), ("order", True, EMPTY)), False)
        self.assertIs(takes_order((0, ()), ("order", 1, EMPTY)), True)
        self.assertIs(takes_order((0, ()), ("order", 0, EMPTY)), False)

    def test_ladders_that_are_not_closed(self):
        # The permutation of the system sifts to one, but its square does not.
        short = ((("letter", 1),), ((0, ((1, 0),)),))
        self.assertIs(takes_order(THREE, ("order", 2, short)), False)
        self.assertIs(takes_member(THREE, (2, 0, 1), ("ladder", short)), False)
        self.assertIs(takes_member(THREE, (0, 2, 1), ("ladder", short)), False)
        # A step leads its sheet to another one, and leaves the sheets of earlier levels.
        rows, levels = LADDER
        still = (rows + (("times", 0, 1),), ((0, ((0, 2), (1, 0), (2, 1))),))
        self.assertIs(takes_order(THREE, ("order", 4, still)), False)
        two = (2, ((1, 0),))
        self.assertIs(takes_order(two, ("order", 2, ((("letter", 1),), ((0, ((1, 0),)),)))), True)
        self.assertIs(takes_order(two, ("order", 4, ((("letter", 1),), ((0, ((1, 0),)), (1, ((0, 0),)))))), False)

    def test_random_ladders(self):
        source = random.Random(8)
        met = {True: 0, False: 0}
        for _ in range(3000):
            d, k = source.randint(1, 4), source.randint(0, 2)
            S = (d, tuple(random_permutation(source, d) for _ in range(k)))
            n, (rows, levels) = order_paper(S)[1:]
            if k:
                rows += (("letter", source.choice([1, -1])), ("times", len(rows), source.randrange(len(rows) + 1)))
            perms = perms_of_slate(S, rows)
            ladder, n = [], 1
            for b in source.sample(range(d), source.randint(0, d)):
                told = [steps for c, steps in levels if c == b]
                found = {perms[i][b]: i for i in source.sample(range(len(perms)), source.randint(0, len(perms)))}
                found.pop(b, None)
                steps = told[0] if told and source.random() < 0.5 else tuple(sorted(found.items()))
                ladder.append((b, steps))
                n *= len(steps) + 1
            paper = ("order", n, (rows, tuple(ladder if source.random() < 0.5 else sorted(ladder))))
            is_taken = order_by_words(S, paper)
            met[is_taken] += 1
            self.assertIs(takes_order(S, paper), is_taken, (S, paper))
            self.assertFalse(is_taken and n != len(group_list(*S)))
        self.assertTrue(min(met.values()) > 300)

    def test_products_of_later_levels(self):
        # The permutation of the system sifts to one, but a product of a step and one of a later level does not.
        S = (4, ((1, 0, 2, 3), (0, 1, 3, 2), (1, 0, 3, 2)))
        rows = (("letter", 1), ("letter", 2), ("letter", 3))
        self.assertIs(takes_order(S, ("order", 4, (rows, ((0, ((1, 0),)), (2, ((3, 1),)))))), True)
        self.assertIs(takes_order(S, ("order", 4, (rows, ((0, ((1, 2),)), (2, ((3, 1),)))))), True)
        T = (4, ((1, 0, 2, 3), (1, 2, 0, 3)))
        rows = (("letter", 1), ("letter", 2), ("letter", -2))
        for levels in (((0, ((1, 0), (2, 2))), (1, ())), ((0, ((1, 1), (2, 2))),), ((0, ((1, 0), (2, 2))),)):
            paper = ("order", 3, (rows, levels))
            self.assertIs(takes_order(T, paper), False)
            self.assertIs(order_by_words(T, paper), False)

    def test_great(self):
        for S in random_systems(102, 12, 24, 4) + [ALL_24, EVEN_24]:
            n, ladder = order_paper(S)[1:]
            self.assertEqual(n, group_order(S))
            self.assertIs(takes_order(S, ("order", n, ladder)), True)
            self.assertIs(takes_order(S, ("order", n * 2, ladder)), False)
            if ladder[1]:
                self.assertIs(takes_order(S, ("order", n, (ladder[0], ladder[1][:-1]))), False)


class Wrong(unittest.TestCase):
    def test_strangers(self):
        for p in ((1, 2, 0), (0, 2, 1), (0, 1, 2)):
            strangers_judged(self, takes_member, member_by_words, (THREE, p))
        for S in (THREE, (0, ()), (2, ())):
            strangers_judged(self, takes_order, order_by_words, (S,))

    def test_malformed(self):
        three = lambda value: permutation(value) and len(value) == 3
        of_three = lambda value: system(value) and value[0] == 3
        malformed_in_each_place(self, member_paper, (THREE, (1, 2, 0)), (of_three, three))
        malformed_in_each_place(self, order_paper, (THREE,), (system,))
        ahead_of_papers(self, takes_member, (THREE, (1, 2, 0)), (of_three, three))
        ahead_of_papers(self, takes_order, (THREE,), (system,))
        malformed(self, member_paper, (THREE, (0, 1)), ((25, ()), tuple(range(25))), (THREE, (True, 0, 2)))
        malformed(self, takes_member, (THREE, (0, 1), None), (THREE, [1, 2, 0], ("slate", (("letter", 1),))))


if __name__ == "__main__":
    unittest.main()
