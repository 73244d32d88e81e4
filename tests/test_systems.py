"""Points 3.1 to 3.7: systems and covers."""

import itertools
import random
import unittest

from branchsheets.errors import Malformed
from branchsheets.permutations import cycle_type, inverse_of, product_of
from branchsheets.systems import datum_of, genus_of, inverse_word, is_closed, is_connected, is_cover, is_system
from branchsheets.systems import is_word, leading_words, least_system, numbered_from, reduced_word
from branchsheets.systems import renumbered_system, restricted_system, system_beside, system_parts, told_system
from branchsheets.systems import walk_word, word_permutation
from helpers import ALL_24, VALUES, all_permutations, closed_up, connected, cycle_row, is_sheet_below, letters_of
from helpers import malformed, malformed_in_each_place, mul, parts_by_trying, permutation, random_permutation
from helpers import random_systems, refused, system, walk, whole, word, words_to

S = (3, ((1, 0, 2), (0, 2, 1), (1, 2, 0)))
GREATEST = (24, tuple(random_permutation(random.Random(i), 24) for i in range(12)))
NO_SHEETS = (0, ((), ()))
RANK_NONE = (3, ())
ROWS = random_systems(11, 60, 6, 3) + [NO_SHEETS, (0, ()), RANK_NONE, (1, ()), (1, ((0,),)), S, GREATEST, ALL_24]
JOINED = random_systems(12, 40, 6, 3, connected) + [(1, ()), (1, ((0,), (0,))), S, GREATEST, ALL_24]


def renumbered_by_hand(T, f):
    perms = []
    for p in T[1]:
        q = [None] * T[0]
        for x in range(T[0]):
            q[f[x]] = f[p[x]]
        perms.append(tuple(q))
    return (T[0], tuple(perms))


def one_of(*texts):
    return lambda value: repr(value) in texts


def reduced_by_hand(w):
    for at in range(len(w) - 1):
        if w[at] == -w[at + 1]:
            return reduced_by_hand(w[:at] + w[at + 2:])
    return w


class Systems(unittest.TestCase):
    def test_is_system(self):
        more = [(24, (tuple(range(24)),) * 12), (24, (tuple(range(24)),) * 13), (25, (tuple(range(25)),)), (25, ()),
                [3, ()], (3, []), (3, ([0, 1, 2],)), (3, ((0, 1),)), (True, ((0,),)), (2, ((True, False),)), (0, ((),))]
        for value in VALUES + more + ROWS:
            self.assertIs(is_system(value), system(value), repr(value))
        self.assertIs(is_system(GREATEST), True)
        self.assertIs(is_system((24, GREATEST[1] + GREATEST[1][:1])), False)

    def test_is_cover(self):
        closed = [closed_up(T) for T in ROWS if len(T[1]) < 12]
        for value in VALUES + ROWS + closed:
            fits = system(value)
            if fits:
                product = tuple(range(value[0]))
                for p in value[1]:
                    product = mul(product, p)
                fits = connected(value) and product == tuple(range(value[0]))
            self.assertIs(is_cover(value), fits, repr(value))
        self.assertIs(is_cover((1, ())), True)
        self.assertIs(is_cover((0, ())), False)
        self.assertIs(is_cover((2, ())), False)

    def test_parts(self):
        for T in ROWS:
            parts = parts_by_trying(T)
            self.assertEqual(system_parts(T), parts)
            self.assertIs(is_connected(T), len(parts) == 1)
        self.assertEqual(system_parts(NO_SHEETS), ())
        self.assertEqual(system_parts(RANK_NONE), ((0,), (1,), (2,)))
        self.assertEqual(system_parts((5, ((3, 1, 4, 0, 2),))), ((0, 3), (1,), (2, 4)))

    def test_closed(self):
        self.assertIs(is_closed((0, ())), True)
        self.assertIs(is_closed((2, ())), True)
        self.assertIs(is_closed(S), True)
        # In order: the other order would not lead back.
        self.assertIs(is_closed((3, ((1, 0, 2), (0, 2, 1), (2, 0, 1)))), False)
        for T in ROWS:
            if len(T[1]) < 12:
                self.assertIs(is_closed(closed_up(T)), True)
                product = tuple(range(T[0]))
                for p in T[1]:
                    product = mul(product, p)
                self.assertIs(is_closed(T), product == tuple(range(T[0])))

    def test_restricted(self):
        for T in ROWS:
            for part in system_parts(T):
                told = restricted_system(T, part)
                self.assertIs(is_system(told), True)
                self.assertEqual(told[0], len(part))
                self.assertEqual(len(told[1]), len(T[1]))
                for p, q in zip(T[1], told[1]):
                    self.assertEqual([part[q[at]] for at in range(len(part))], [p[x] for x in part])
        T = (5, ((3, 1, 4, 0, 2),))
        malformed(self, restricted_system, (T, (0,)), (T, (0, 3, 1)), (T, (3, 0)), (T, [0, 3]), (T, ()), (T, (0, 3, 3)),
                  (NO_SHEETS, ()), (T, (0, 1, 2, 3, 4)), ((2, ((1, 0),)), (False, True)))
        malformed_in_each_place(self, restricted_system, ((2, ((1, 0),)), (0, 1)),
                                [lambda v: system(v) and (0, 1) in parts_by_trying(v), one_of("(0, 1)")])
        for value in VALUES:
            if repr(value) != "(1,)":
                malformed(self, restricted_system, (T, value))

    def test_beside(self):
        self.assertEqual(system_beside((2, ((1, 0),)), (3, ((1, 2, 0),))), (5, ((1, 0, 3, 4, 2),)))
        self.assertEqual(system_beside((0, ()), (2, ())), (2, ()))
        for one, other in itertools.product(random_systems(13, 25, 5, 2), repeat=2):
            if len(one[1]) != len(other[1]):
                malformed(self, system_beside, (one, other))
                continue
            told = system_beside(one, other)
            self.assertEqual(told[0], one[0] + other[0])
            for p, q, r in zip(one[1], other[1], told[1]):
                self.assertEqual(r[:one[0]], p)
                self.assertEqual([y - one[0] for y in r[one[0]:]], list(q))

    def test_beside_large(self):
        twelve, thirteen = (12, (cycle_row(12),)), (13, (cycle_row(13),))
        self.assertEqual(system_beside(twelve, twelve)[0], 24)
        refused(self, "large", system_beside, twelve, thirteen)
        refused(self, "large", system_beside, (24, ()), (1, ()))
        malformed(self, system_beside, (twelve, (13, ())), ((24, ()), 25), (True, twelve), (twelve, None))


class Words(unittest.TestCase):
    def test_is_word(self):
        rows = VALUES + words_to(2, 3) + [(13,), (-12,), (12, -13), (1, 0), (1, True), (1, "2"), (1, -1), [1, 2]]
        for k in range(13):
            for value in rows + [(k,), (-k,), (k + 1,), (-k - 1,)]:
                self.assertIs(is_word(value, k), word(value, k), (value, k))
        self.assertIs(is_word((), 0), True)
        self.assertIs(is_word((1,) * 2000, 1), True)
        self.assertIs(is_word((1,) * 2001, 1), False)

    def test_is_word_rank(self):
        for k in VALUES + [-1, 13, 10 ** 70]:
            if not (whole(k) and 0 <= k <= 12):
                malformed(self, is_word, ((), k), (None, k), ((1,), k))
                malformed(self, inverse_word, ((), k))
                malformed(self, reduced_word, ((), k))

    def test_inverse_and_reduced(self):
        source = random.Random(14)
        rows = words_to(2, 5) + [tuple(source.choice(letters_of(3)) for _ in range(40)) for _ in range(100)]
        for w in rows:
            turned = inverse_word(w, 3)
            self.assertEqual(turned, tuple(-i for i in reversed(w)))
            self.assertEqual(reduced_word(w, 3), reduced_by_hand(w))
            self.assertEqual(reduced_word(w + turned, 3), ())
        long = (1, 2) * 500 + (-2, -1) * 500
        self.assertEqual(reduced_word(long, 2), ())
        self.assertEqual(reduced_word((1, -2) * 1000, 2), (1, -2) * 1000)
        self.assertEqual(inverse_word((1, -2) * 1000, 2), (2, -1) * 1000)

    def test_wrong_words(self):
        for function in (inverse_word, reduced_word):
            malformed_in_each_place(self, function, ((1, -2), 2),
                                    [lambda v: word(v, 2), lambda v: whole(v) and 2 <= v <= 12])
            malformed(self, function, ((1,) * 2001, 1), ([1], 1), ((2,), 1), ((1,), 0), ((True,), 1))

    def test_walks(self):
        source = random.Random(15)
        for T in ROWS:
            k = len(T[1])
            for _ in range(6):
                w = tuple(source.choice(letters_of(k)) for _ in range(source.randint(0, 9))) if k else ()
                told = word_permutation(T, w)
                self.assertEqual(told, tuple(walk(T, x, w) for x in range(T[0])))
                for x in range(T[0]):
                    self.assertEqual(walk_word(T, x, w), walk(T, x, w))
        self.assertEqual(walk_word(GREATEST, 5, (1, -12) * 1000), word_permutation(GREATEST, (1, -12) * 1000)[5])
        self.assertEqual(word_permutation(S, (1,)), S[1][0])
        self.assertEqual(word_permutation(S, (-3,)), (2, 0, 1))
        self.assertEqual(word_permutation(NO_SHEETS, (1, 2)), ())

    def test_wrong_walks(self):
        malformed_in_each_place(self, walk_word, (S, 0, (1,)),
                                [lambda v: system(v) and v[0] > 0 and v[1], is_sheet_below(3), lambda v: word(v, 3)])
        malformed_in_each_place(self, word_permutation, (S, (1,)),
                                [lambda v: system(v) and v[1], lambda v: word(v, 3)])
        malformed(self, walk_word, (S, 3, ()), (S, -1, ()), (S, 0, (4,)), (S, 0, (1,) * 2001), (NO_SHEETS, 0, ()),
                  (RANK_NONE, 0, (1,)), (S, True, ()), (S, 0, [1]))
        malformed(self, word_permutation, (S, (4,)), (S, (1,) * 2001), (RANK_NONE, (1,)))

    def test_told_system(self):
        for T in ROWS:
            words = [w for w in words_to(len(T[1]), 2)]
            for many in (0, 1, 5, 12):
                chosen = tuple(words[at % len(words)] for at in range(many))
                self.assertEqual(told_system(T, chosen),
                                 (T[0], tuple(tuple(walk(T, x, w) for x in range(T[0])) for w in chosen)))
        self.assertEqual(told_system(S, ((1,), (2,), (3,))), S)
        malformed(self, told_system, (S, ((),) * 13), (S, [()]), (S, ((1,), [2])), (S, ((4,),)), (S, (1,)), (S, None),
                  (S, ((1,) * 2001,)), (None, ()), ((3, ((0, 1),)), ()))
        malformed_in_each_place(self, told_system, (S, ()), [
            system, lambda v: isinstance(v, tuple) and len(v) <= 12 and all(word(w, 3) for w in v)])


class Covers(unittest.TestCase):
    def test_datum(self):
        for T in ROWS:
            self.assertEqual(datum_of(T), tuple(cycle_type(p) for p in T[1]))
        self.assertEqual(datum_of(NO_SHEETS), ((), ()))

    def test_genus(self):
        covers = [closed_up(T) for T in JOINED if len(T[1]) < 12]
        found = set()
        for T in covers:
            loss = sum(T[0] - len(cycle_type(p)) for p in T[1])
            self.assertEqual(2 - 2 * genus_of(T), 2 * T[0] - loss)
            found.add(genus_of(T))
        self.assertGreater(len(found), 2)
        self.assertEqual(genus_of((1, ())), 0)
        self.assertEqual(genus_of(S), 0)
        self.assertEqual(genus_of((3, ((1, 2, 0),) * 3)), 1)
        self.assertEqual(genus_of((2, ((1, 0),) * 6)), 2)

    def test_genus_malformed(self):
        for value in VALUES + ROWS + [(2, ()), (0, ()), (4, ((1, 0, 3, 2),) * 2), (2, ((1, 0),))]:
            if not is_cover(value):
                malformed(self, genus_of, (value,))


class Numberings(unittest.TestCase):
    def test_renumbered(self):
        for T in ROWS[:60]:
            for f in all_permutations(T[0])[:40]:
                self.assertEqual(renumbered_system(T, f), renumbered_by_hand(T, f))
        f = random_permutation(random.Random(16), 24)
        self.assertEqual(renumbered_system(GREATEST, f), renumbered_by_hand(GREATEST, f))
        self.assertEqual(renumbered_system(NO_SHEETS, ()), NO_SHEETS)
        malformed_in_each_place(self, renumbered_system, (S, (0, 1, 2)),
                                [lambda v: system(v) and v[0] == 3, lambda v: permutation(v) and len(v) == 3])
        malformed(self, renumbered_system, (S, (0, 1)), (S, [0, 1, 2]), (S, (0, 1, 1)))

    def test_numbered(self):
        for T in JOINED:
            d, perms = T
            for x in range(d):
                order = [x]
                for y in order:
                    for p in perms:
                        if p[y] not in order:
                            order.append(p[y])
                f = inverse_of(tuple(order))
                self.assertEqual(numbered_from(T, x), renumbered_by_hand(T, f))

    def test_least(self):
        for T in JOINED:
            self.assertEqual(least_system(T), min(numbered_from(T, x) for x in range(T[0])))

    def test_least_tells_alike(self):
        source = random.Random(17)
        for T in JOINED:
            f = random_permutation(source, T[0])
            self.assertEqual(least_system(renumbered_by_hand(T, f)), least_system(T))
        pairs = itertools.product(random_systems(18, 25, 4, 2, connected), repeat=2)
        for one, other in pairs:
            alike = one[0] == other[0] and any(renumbered_by_hand(one, f) == other for f in all_permutations(one[0]))
            self.assertEqual(least_system(one) == least_system(other), alike)

    def test_leading_words(self):
        for T in random_systems(19, 30, 5, 2, connected):
            for x in range(T[0]):
                told = leading_words(T, x)
                self.assertEqual(len(told), T[0])
                for y, w in enumerate(told):
                    fits = next(v for v in words_to(len(T[1]), len(w)) if walk(T, x, v) == y)
                    self.assertEqual(w, fits)
                    self.assertTrue(w == () or w[:-1] in told)

    def test_leading_words_great(self):
        told = leading_words((24, (cycle_row(24),)), 3)
        self.assertEqual(told[15], (1,) * 12)
        self.assertEqual(told[14], (1,) * 11)
        self.assertEqual(told[16], (-1,) * 11)
        self.assertEqual(told[3], ())
        for y, w in enumerate(leading_words(GREATEST, 7)):
            self.assertEqual(walk(GREATEST, 7, w), y)
        self.assertEqual(leading_words((1, ()), 0), ((),))

    def test_not_connected(self):
        for T in (NO_SHEETS, (0, ()), RANK_NONE, (4, ((1, 0, 3, 2),)), (24, (tuple(range(24)),) * 12)):
            malformed(self, numbered_from, (T, 0))
            malformed(self, least_system, (T,))
            malformed(self, leading_words, (T, 0))

    def test_wrong(self):
        def joined(value):
            return system(value) and connected(value)
        for function in (numbered_from, leading_words):
            malformed_in_each_place(self, function, (S, 0), [joined, is_sheet_below(3)])
            malformed(self, function, (S, 3), (S, -1), (S, True))
        malformed_in_each_place(self, least_system, (S,), [joined])
        for function in (is_connected, is_closed, system_parts, datum_of):
            malformed_in_each_place(self, function, (S,), [system])
        malformed_in_each_place(self, system_beside, (S, S), [lambda v: system(v) and len(v[1]) == 3] * 2)
        with self.assertRaises(Malformed):
            product_of((0,), (0, 1))


if __name__ == "__main__":
    unittest.main()
