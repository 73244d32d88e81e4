"""Points 4.1 to 4.9: maps of systems, deck maps, blocks."""

import itertools
import random
import unittest

from branchsheets.decks import alike_by, block_colourings, blocks_join, blocks_meet, branch_loss, closing_word
from branchsheets.decks import deck_colouring, deck_maps, folded_system, is_block_colouring, is_galois, is_primitive
from branchsheets.decks import is_system_map, joining_blocks, map_from, system_maps
from branchsheets.permutations import cycles_of
from branchsheets.systems import genus_of, is_cover, is_system, renumbered_system, told_system
from helpers import ALL_24, VALUES, all_permutations, closed_up, connected, cycle_row, group_list, is_sheet_below
from helpers import malformed, malformed_in_each_place, mul, permutation, random_permutation, random_systems, system
from helpers import swap_row, walk, whole, word

SIX, TWO = (6, ((1, 2, 3, 4, 5, 0),)), (2, ((1, 0),))
S = (3, ((1, 0, 2), (0, 2, 1), (1, 2, 0)))
ANY = random_systems(21, 40, 4, 2) + [(0, ()), (0, ((),)), (2, ()), (1, ()), (1, ((0,),))]
JOINED = random_systems(22, 40, 5, 2, connected) + [(1, ()), SIX, TWO, S, (4, ((1, 0, 3, 2), (2, 3, 0, 1)))]


def regular_system(makers):
    """The system on which the group of some permutations is seen from itself."""
    members = sorted(group_list(len(makers[0]), makers))
    return (len(members), tuple(tuple(members.index(mul(g, p)) for g in members) for p in makers))


# Elementary groups of 8 and 16 members, the dihedral one of 24 and all permutations of 4 things.
EIGHT = regular_system([swap_row(6, 0, 1), swap_row(6, 2, 3), swap_row(6, 4, 5)])
SIXTEEN = regular_system([swap_row(8, 2 * i, 2 * i + 1) for i in range(4)])
DIHEDRAL = regular_system([cycle_row(12), tuple(-x % 12 for x in range(12))])
FOUR = regular_system([cycle_row(4), swap_row(4, 0, 1)])
GREAT = [EIGHT, SIXTEEN, DIHEDRAL, FOUR, ALL_24, (24, (cycle_row(24),) * 12)]


def maps_by_trying(one, other):
    rows = []
    for f in itertools.product(range(other[0]), repeat=one[0]):
        if all(f[p[x]] == q[f[x]] for p, q in zip(one[1], other[1]) for x in range(one[0])):
            rows.append(f)
    return tuple(rows)


def colourings_of(d):
    rows = [()]
    for _ in range(d):
        rows = [row + (c,) for row in rows for c in range(max(row, default=-1) + 2)]
    return rows


def is_kept(T, colouring):
    return all(colouring[p[x]] == colouring[p[y]] for p in T[1] for x in range(T[0]) for y in range(T[0])
               if colouring[x] == colouring[y])


def blocks_by_trying(T):
    return tuple(c for c in colourings_of(T[0]) if is_kept(T, c))


def is_finer(one, other):
    return all(other[x] == other[y] for x in range(len(one)) for y in range(len(one)) if one[x] == one[y])


def joined(value):
    return system(value) and connected(value)


class Maps(unittest.TestCase):
    def test_is_system_map(self):
        for one, other in itertools.product(ANY, repeat=2):
            if len(one[1]) != len(other[1]):
                malformed(self, is_system_map, (one, other, ()), (one, other, None))
                continue
            told = set(maps_by_trying(one, other))
            for value in itertools.product(range(other[0]), repeat=one[0]):
                self.assertIs(is_system_map(one, other, value), value in told)

    def test_is_system_map_for_every_value(self):
        for one, other in ((TWO, TWO), (SIX, TWO), ((1, ((0,),)), (1, ((0,),))), ((0, ((),)), TWO), ((2, ()), (2, ()))):
            fits = [repr(f) for f in maps_by_trying(one, other)]
            more = [(1, 0, 1, 0, 1, 0), [1, 0, 1, 0, 1, 0], (True, False, True, False, True, False), (0, 1, 0, 1, 0, 2),
                    (-2, -1), (0, -1), ("0", "1"), (0, 1, 0)]
            for value in VALUES + more:
                self.assertIs(is_system_map(one, other, value), repr(value) in fits, repr(value))
        malformed_in_each_place(self, is_system_map, (TWO, TWO, None),
                                [lambda v: system(v) and len(v[1]) == 1] * 2 + [lambda v: True])

    def test_maps(self):
        for one, other in itertools.product(JOINED, repeat=2):
            if len(one[1]) != len(other[1]):
                malformed(self, system_maps, (one, other))
                malformed(self, map_from, (one, other, 0))
                malformed(self, closing_word, (one, other, 0))
                malformed(self, alike_by, (one, other))
                continue
            rows = maps_by_trying(one, other) if other[0] ** one[0] < 5000 else None
            told = system_maps(one, other)
            if rows is not None:
                self.assertEqual(told, rows)
            for y in range(other[0]):
                fits = [f for f in told if f[0] == y]
                self.assertEqual(map_from(one, other, y), fits[0] if fits else None)
                self.assertLessEqual(len(fits), 1)

    def test_closing_words(self):
        some = 0
        for one, other in itertools.product(JOINED + GREAT, repeat=2):
            if len(one[1]) != len(other[1]):
                continue
            for y in range(other[0]):
                w = closing_word(one, other, y)
                self.assertEqual(w is None, map_from(one, other, y) is not None)
                if w is not None:
                    some += 1
                    self.assertTrue(word(w, len(one[1])))
                    self.assertLessEqual(len(w), 2 * one[0] + 1)
                    self.assertEqual(walk(one, 0, w), 0)
                    self.assertNotEqual(walk(other, y, w), y)
        self.assertGreater(some, 100)

    def test_onto_equally_often(self):
        for one, other in itertools.product(JOINED, repeat=2):
            if len(one[1]) == len(other[1]):
                for f in system_maps(one, other):
                    self.assertEqual({f.count(y) for y in range(other[0])}, {one[0] // other[0]})

    def test_alike(self):
        source = random.Random(23)
        for one in JOINED + GREAT:
            f = random_permutation(source, one[0])
            other = renumbered_system(one, f)
            told = alike_by(one, other)
            self.assertEqual(renumbered_system(one, told), other)
            self.assertLessEqual(told, f)
            if one[0] < 6:
                rows = [g for g in all_permutations(one[0]) if renumbered_system(one, g) == other]
                self.assertEqual(told, rows[0])
        for one, other in itertools.product(JOINED, repeat=2):
            if len(one[1]) == len(other[1]) and one[0] < 6:
                rows = [g for g in all_permutations(one[0]) if renumbered_system(one, g) == other]
                self.assertEqual(alike_by(one, other), rows[0] if rows and one[0] == other[0] else None)
        self.assertIsNone(alike_by(SIX, TWO))

    def test_wrong(self):
        def one_letter(value):
            return joined(value) and len(value[1]) == 1
        for function in (map_from, closing_word):
            malformed_in_each_place(self, function, (SIX, TWO, 1), [one_letter, one_letter, is_sheet_below(2)])
            malformed(self, function, (SIX, TWO, 2), (SIX, TWO, -1), (SIX, TWO, True))
        for function in (system_maps, alike_by):
            malformed_in_each_place(self, function, (SIX, TWO), [one_letter, one_letter])
        apart = (2, ((0, 1),))
        for function in (system_maps, alike_by):
            malformed(self, function, (apart, TWO), (TWO, apart), ((0, ((),)), TWO), (TWO, (0, ((),))))
        for function in (map_from, closing_word):
            malformed(self, function, (apart, TWO, 0), (TWO, apart, 0), ((0, ((),)), TWO, 0), (TWO, (0, ((),)), 0))


class DeckMaps(unittest.TestCase):
    def test_deck_maps(self):
        for T in JOINED:
            d, perms = T
            if d < 6:
                rows = tuple(f for f in all_permutations(d) if all(mul(f, p) == mul(p, f) for p in perms))
                self.assertEqual(deck_maps(T), rows)
            self.assertIs(is_galois(T), len(deck_maps(T)) == d)
            self.assertEqual(d % len(deck_maps(T)), 0)

    def test_great(self):
        for T in GREAT:
            rows = deck_maps(T)
            self.assertEqual(list(rows), sorted(rows))
            self.assertTrue(all(permutation(f) and mul(f, p) == mul(p, f) for f in rows for p in T[1]))
            self.assertEqual(len(rows), 1 if T == ALL_24 else T[0])
            self.assertIs(is_galois(T), T != ALL_24)
        self.assertIs(is_galois((1, ())), True)
        self.assertIs(is_galois(S), False)

    def test_deck_colouring(self):
        for T in JOINED + GREAT:
            rows = deck_maps(T)
            told = deck_colouring(T)
            self.assertIs(is_block_colouring(T, told), True)
            for x in range(T[0]):
                for y in range(T[0]):
                    self.assertEqual(told[x] == told[y], any(f[x] == y for f in rows))
        self.assertEqual(deck_colouring(S), (0, 1, 2))
        self.assertEqual(deck_colouring(SIX), (0,) * 6)

    def test_wrong(self):
        for function in (deck_maps, is_galois, deck_colouring, block_colourings, is_primitive):
            malformed_in_each_place(self, function, (S,), [joined])
            malformed(self, function, ((2, ()),), ((0, ()),), ((4, ((1, 0, 3, 2),)),))


class Blocks(unittest.TestCase):
    def test_is_block_colouring(self):
        for T in ANY:
            rows = blocks_by_trying(T)
            for value in itertools.product(range(-1, T[0] + 1), repeat=T[0]):
                self.assertIs(is_block_colouring(T, value), value in rows, (T, value))

    def test_is_block_colouring_for_every_value(self):
        for T in (TWO, (2, ()), (1, ()), (0, ()), S):
            rows = [repr(c) for c in blocks_by_trying(T)]
            for value in VALUES + [(0, 0, 0), [0, 0, 0], (0, 1, 2), (0, False, 0), (0, 0, "0"), (1, 0, 2), (0, 2, 1)]:
                self.assertIs(is_block_colouring(T, value), repr(value) in rows, (T, value))
        malformed_in_each_place(self, is_block_colouring, (TWO, None), [system, lambda v: True])

    def test_all(self):
        for T in JOINED:
            rows = blocks_by_trying(T)
            self.assertEqual(block_colourings(T), rows)
            self.assertIs(is_primitive(T), T[0] > 1 and len(rows) == 2)

    def test_great(self):
        # Numbers of subgroups.
        for T, many in ((EIGHT, 16), (SIXTEEN, 67), (FOUR, 30), (DIHEDRAL, 34), (ALL_24, 2)):
            rows = block_colourings(T)
            self.assertEqual(len(rows), many)
            self.assertEqual(list(rows), sorted(set(rows)))
            self.assertTrue(all(is_block_colouring(T, c) for c in rows))
            self.assertEqual((rows[0], rows[-1]), ((0,) * T[0], tuple(range(T[0]))))
            self.assertIs(is_primitive(T), T == ALL_24)

    def test_primitive(self):
        self.assertIs(is_primitive((1, ())), False)
        self.assertIs(is_primitive((1, ((0,),))), False)
        self.assertIs(is_primitive(TWO), True)
        self.assertIs(is_primitive(SIX), False)
        # One proper block with 0 alone, that of 0 and 1, or that of 0 and 3.
        self.assertIs(is_primitive((4, ((2, 3, 1, 0),))), False)
        self.assertEqual(len(block_colourings((4, ((2, 3, 1, 0),)))), 3)
        self.assertIs(is_primitive((4, ((1, 3, 0, 2),))), False)
        self.assertEqual(len(block_colourings((4, ((1, 3, 0, 2),)))), 3)
        for d in (2, 3, 5, 7, 11, 13, 17, 19, 23):
            self.assertIs(is_primitive((d, (cycle_row(d),))), True)
        for d in (4, 9, 22, 24):
            self.assertIs(is_primitive((d, (cycle_row(d),))), False)

    def test_joining(self):
        for T in JOINED:
            rows = blocks_by_trying(T)
            for x in range(T[0]):
                for y in range(T[0]):
                    told = joining_blocks(T, x, y)
                    self.assertIn(told, rows)
                    self.assertEqual(told[x], told[y])
                    for c in rows:
                        if c[x] == c[y]:
                            self.assertTrue(is_finer(told, c))
        self.assertEqual(joining_blocks((24, (cycle_row(24),)), 20, 4), tuple(x % 8 for x in range(24)))

    def test_folded(self):
        for T in JOINED + GREAT:
            for c in block_colourings(T):
                told = folded_system(T, c)
                self.assertIs(is_system(told), True)
                self.assertEqual(told[0], max(c) + 1)
                self.assertIs(is_system_map(T, told, c), True)

    def test_meet_and_join(self):
        for T in JOINED + [EIGHT]:
            rows = block_colourings(T)
            for one in rows:
                for other in rows:
                    meet, join = blocks_meet(T, one, other), blocks_join(T, one, other)
                    self.assertIn(meet, rows)
                    self.assertIn(join, rows)
                    for x in range(T[0]):
                        for y in range(T[0]):
                            self.assertEqual(meet[x] == meet[y], one[x] == one[y] and other[x] == other[y])
                    self.assertTrue(is_finer(one, join) and is_finer(other, join))
                    for c in rows:
                        if is_finer(one, c) and is_finer(other, c):
                            self.assertTrue(is_finer(join, c))

    def test_wrong(self):
        good = (0, 1, 0, 1, 0, 1)

        def fits(value):
            return isinstance(value, tuple) and value in blocks_by_trying(SIX)
        six = [lambda v: v == SIX]
        malformed_in_each_place(self, joining_blocks, (TWO, 0, 1), [lambda v: joined(v) and v[0] > 1] + [is_sheet_below(2)] * 2)
        malformed(self, joining_blocks, (SIX, 0, 6), (SIX, -1, 0), (SIX, True, 0), (SIX, 0, False), ((2, ()), 0, 1))
        malformed_in_each_place(self, folded_system, (SIX, good), six + [fits])
        for function in (blocks_meet, blocks_join):
            malformed_in_each_place(self, function, (SIX, good, good), six + [fits, fits])
            malformed(self, function, ((2, ()), (0, 0), (0, 0)), (SIX, good, (0, 0, 1, 1, 2, 2)), (SIX, list(good), good))
        malformed(self, folded_system, ((2, ()), (0, 0)), ((0, ()), ()), (SIX, (0, 0, 1, 1, 2, 2)), (SIX, (1, 0, 1, 0, 1, 0)),
                  (SIX, (0, 2, 0, 2, 0, 2)), (SIX, (0, True, 0, True, 0, True)))


class Branching(unittest.TestCase):
    def test_rule(self):
        some = set()
        covers = [closed_up(T) for T in JOINED + GREAT if len(T[1]) < 12]
        for T in covers:
            for c in block_colourings(T):
                below = folded_system(T, c)
                self.assertIs(is_cover(below), True)
                n = T[0] // below[0]
                loss = branch_loss(T, below, c)
                self.assertEqual(2 * genus_of(T) - 2, n * (2 * genus_of(below) - 2) + loss)
                some.add(loss)
        self.assertGreater(len(some), 8)

    def test_by_cycles(self):
        for T in [closed_up(T) for T in JOINED]:
            for c in block_colourings(T):
                below = folded_system(T, c)
                loss = 0
                for p, q in zip(T[1], below[1]):
                    for cycle in cycles_of(p):
                        lengths = [len(other) for other in cycles_of(q) if c[cycle[0]] in other]
                        loss += len(cycle) // lengths[0] - 1
                self.assertEqual(branch_loss(T, below, c), loss)

    def test_wrong(self):
        one = (1, ((0,), (0,), (0,)))
        self.assertEqual(branch_loss(S, one, (0, 0, 0)), 4)

        def cover(value):
            return system(value) and is_cover(value) and len(value[1]) == 3
        malformed_in_each_place(self, branch_loss, (S, one, (0, 0, 0)), [cover, cover, lambda v: repr(v) == "(0, 0, 0)"])
        malformed(self, branch_loss, (TWO, TWO, (0, 1)), (S, S, (1, 0, 2)), (S, S, [0, 1, 2]), (S, TWO, (0, 0, 0)),
                  ((2, ((0, 1),)), (2, ((0, 1),)), (0, 1)), (S, S, (False, True, 2)))
        # The first one is not closed, the second one is.
        malformed(self, branch_loss, (TWO, (1, ((0,),)), (0, 0)))
        self.assertEqual(branch_loss(S, S, (0, 1, 2)), 0)
        self.assertEqual(told_system(S, ((1,),))[0], 3)
        self.assertTrue(whole(branch_loss(S, S, (0, 1, 2))))


if __name__ == "__main__":
    unittest.main()
