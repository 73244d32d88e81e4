"""Points 6.1 to 6.6: subgroups of finite index."""

import itertools
import random
import unittest
from math import factorial

from branchsheets.finiteindex import cover_classes, folded_system, hall_number, is_in_subgroup, rooted_systems
from branchsheets.finiteindex import rooted_told, same_subgroup, schreier_row, schreier_word, schreier_words
from branchsheets.finiteindex import subgroup_index, subgroup_rank, transitive_tuples
from branchsheets.systems import inverse_word, leading_words, least_system, reduced_word, renumbered_system
from helpers import ALL_24, all_permutations, connected, cycle_row, is_sheet_below, letters_of, malformed
from helpers import malformed_in_each_place, random_permutation, random_systems, refused, system, walk, whole, word
from helpers import words_to

S = (2, ((1, 0), (0, 1)))
JOINED = random_systems(41, 40, 6, 3, connected) + [(1, ()), (1, ((0,), (0,))), S, ALL_24, (24, (cycle_row(24),) * 12)]
APART = [(2, ()), (4, ((1, 0, 3, 2),)), (3, ((0, 1, 2), (1, 0, 2)))]


def reduced(w):
    return reduced_word(tuple(w), 12)


def told_by_hand(T, x):
    heads = leading_words(T, x)
    rows = []
    for y in range(T[0]):
        for i in range(1, len(T[1]) + 1):
            z = T[1][i - 1][y]
            w = reduced(heads[y] + (i,) + inverse_word(heads[z], 12))
            if w:
                rows.append(w)
    return tuple(rows)


def product_of_row(words, row):
    letters = ()
    for j in row:
        letters += words[j - 1] if j > 0 else tuple(-i for i in reversed(words[-j - 1]))
    return reduced(letters)


def connected_systems(k, d):
    rows = []
    for perms in itertools.product(all_permutations(d), repeat=k):
        if connected((d, perms)):
            rows.append((d, perms))
    return rows


def rooted_by_hand(T):
    """T seen from 0: the sheets in the order of their least words."""
    heads = leading_words(T, 0)

    def key(y):
        return (len(heads[y]), [2 * abs(i) - (i > 0) for i in heads[y]])
    order = sorted(range(T[0]), key=key)
    return renumbered_system(T, tuple(order.index(y) for y in range(T[0])))


def leads_back(arcs, w):
    """True if the letters of a word lead 0 to 0 along the arcs."""
    x = 0
    for i in w:
        ahead = [y for a, j, y in arcs if (a, j) == (x, i)] + [a for a, j, y in arcs if (y, -j) == (x, i)]
        if not ahead:
            return False
        x = ahead[0]
    return x == 0


class Schreier(unittest.TestCase):
    def test_words(self):
        for T in JOINED:
            for x in range(min(T[0], 6)):
                told = schreier_words(T, x)
                self.assertEqual(told, told_by_hand(T, x))
                self.assertEqual(len(told), T[0] * (len(T[1]) - 1) + 1)
                self.assertTrue(all(walk(T, x, w) == x for w in told))

    def test_rows_and_words_undo_each_other(self):
        source = random.Random(42)
        for T in JOINED:
            for x in range(min(T[0], 4)):
                words = schreier_words(T, x)
                for _ in range(4):
                    numbers = [s * j for j in range(1, len(words) + 1) for s in (1, -1)]
                    row = [source.choice(numbers) for _ in range(source.randint(0, 8))] if numbers else []
                    kept = []
                    for j in row:
                        if kept and kept[-1] == -j:
                            kept.pop()
                        else:
                            kept.append(j)
                    w = schreier_word(T, x, tuple(row))
                    self.assertEqual(w, product_of_row(words, row))
                    self.assertEqual(schreier_row(T, x, w), tuple(kept))
                    self.assertEqual(walk(T, x, w), x)

    def test_rows_of_words(self):
        for T in ((3, ((1, 2, 0), (0, 2, 1))), S, (4, ((1, 0, 3, 2), (2, 3, 0, 1))), (1, ((0,), (0,)))):
            for x in range(T[0]):
                words = schreier_words(T, x)
                for w in words_to(2, 6):
                    if walk(T, x, w) == x:
                        row = schreier_row(T, x, w)
                        self.assertEqual(row, schreier_row(T, x, reduced(w)))
                        self.assertEqual(product_of_row(words, row), reduced(w))
                        self.assertTrue(all(row[i] != -row[i + 1] for i in range(len(row) - 1)))
                        self.assertEqual(schreier_word(T, x, row), reduced(w))
                    else:
                        refused(self, "open", schreier_row, T, x, w)

    def test_long(self):
        w = (1, 2) * 1000
        row = schreier_row(S, 0, w)
        self.assertEqual(schreier_word(S, 0, row), w)
        self.assertEqual(schreier_row(S, 0, (1, 2, -2, -1) * 500), ())
        self.assertEqual(schreier_word(S, 0, ()), ())

    def test_told(self):
        for T in JOINED:
            for x in range(min(T[0], 6)):
                told = rooted_told(T, x)
                swapped = renumbered_system(T, (x,) + tuple(0 if y == x else y for y in range(1, T[0])))
                self.assertEqual(told, rooted_by_hand(swapped))
        f = random_permutation(random.Random(43), 24)
        self.assertEqual(rooted_told(renumbered_system(ALL_24, f), f[5]), rooted_told(ALL_24, 5))

    def test_not_connected(self):
        for T in APART:
            refused(self, "connected", schreier_words, T, 0)
            refused(self, "connected", rooted_told, T, 1)
            refused(self, "connected", schreier_row, T, 0, ())
            refused(self, "connected", schreier_row, T, 0, (1,) if T[1] else ())
            # Connectedness is asked ahead of the row, but behind all else.
            for row in ((), (1,), (0,), None, [1], (99,), "row"):
                refused(self, "connected", schreier_word, T, 0, row)
            malformed(self, schreier_row, (T, 0, (4,)), (T, 0, None), (T, 9, ()))
            malformed(self, schreier_word, (T, 9, ()), (T, True, ()), (list(T), 0, ()))
            malformed(self, schreier_words, (T, 9), (T, -1))

    def test_wrong(self):
        def two_letters(value):
            return system(value) and connected(value) and len(value[1]) == 2 and value[0] > 1
        for function in (schreier_words, rooted_told):
            malformed_in_each_place(self, function, (S, 0), [two_or_more, is_sheet_below(2)])
            malformed(self, function, (S, 2), (S, -1), (S, False), ((0, ()), 0))
        malformed_in_each_place(self, schreier_row, (S, 0, (2,)), [two_letters, is_sheet_below(2), lambda v: word(v, 2)])
        malformed(self, schreier_row, (S, 0, (3,)), (S, 0, (1,) * 2001), (S, 0, [2]), (S, 0, (1, True)), (S, 2, ()))
        malformed_in_each_place(self, schreier_word, (S, 0, (1, -3)), [
            lambda v: two_letters(v) or two_or_more(v) and not connected(v), is_sheet_below(2),
            lambda v: isinstance(v, tuple) and all(whole(j) and 0 < abs(j) <= 3 for j in v)])
        malformed(self, schreier_word, (S, 0, (0,)), (S, 0, (4,)), (S, 0, (-4,)), (S, 0, [1]), (S, 0, (True,)), (S, 0, None))


def two_or_more(value):
    return system(value) and value[0] > 0


class Numbers(unittest.TestCase):
    def test_by_trying(self):
        for k, d in ((1, 1), (1, 2), (1, 3), (1, 4), (1, 5), (2, 1), (2, 2), (2, 3), (2, 4), (3, 1), (3, 2), (3, 3), (4, 2)):
            rows = connected_systems(k, d)
            self.assertEqual(transitive_tuples(k, d), len(rows))
            self.assertEqual(hall_number(k, d) * factorial(d - 1), len(rows))
            self.assertEqual(hall_number(k, d), len({rooted_by_hand(T) for T in rows}))
            self.assertEqual(cover_classes(k, d), len({least_system(T) for T in rows}))

    def test_known(self):
        self.assertEqual([hall_number(2, d) for d in range(1, 9)], [1, 3, 13, 71, 461, 3447, 29093, 273343])
        self.assertEqual([cover_classes(2, d) for d in range(1, 9)], [1, 3, 7, 26, 97, 624, 4163, 34470])
        self.assertEqual([cover_classes(3, d) for d in range(1, 5)], [1, 7, 41, 604])
        for d in range(1, 25):
            self.assertEqual((hall_number(1, d), cover_classes(1, d)), (1, 1))
            self.assertEqual(transitive_tuples(1, d), factorial(d - 1))

    def test_recursion(self):
        for k in range(1, 13):
            for d in range(1, 25):
                right = sum(factorial(d - j) ** (k - 1) * hall_number(k, j) for j in range(1, d + 1))
                self.assertEqual(d * factorial(d) ** (k - 1), right)
        self.assertGreater(cover_classes(12, 24), factorial(24) ** 10)
        # A class of covers has at most d told systems.
        for k, d in ((12, 24), (3, 20), (5, 9)):
            self.assertLessEqual(hall_number(k, d), d * cover_classes(k, d))

    def test_wrong(self):
        for function in (hall_number, transitive_tuples, cover_classes):
            malformed_in_each_place(self, function, (2, 3), [lambda v: whole(v) and 1 <= v <= 12,
                                                             lambda v: whole(v) and 1 <= v <= 24])
            malformed(self, function, (0, 1), (13, 1), (1, 0), (1, 25), (True, 3), (2, True), (-1, 3), (2, -3))


class Rooted(unittest.TestCase):
    def test_by_trying(self):
        for k, d in ((1, 1), (1, 4), (2, 1), (2, 2), (2, 3), (2, 4), (3, 2), (3, 3)):
            told = sorted({rooted_by_hand(T) for T in connected_systems(k, d)})
            self.assertEqual(rooted_systems(k, d, ()), tuple(told))
            for words in (((1,),), ((1, 1),), ((1, -1),), ((),), ((1,) * 3, (-1, 1, 1, 1)), (tuple(range(1, k + 1)),),
                          ((k, 1, -k, -1),), ((1, k, k, -1), (1, 1, k, 1, 1, k))):
                fits = [T for T in told if all(walk(T, x, w) == x for w in words for x in range(d))]
                self.assertEqual(rooted_systems(k, d, words), tuple(fits))

    def test_great(self):
        for k, d in ((2, 5), (2, 6), (3, 4), (5, 3), (12, 2), (1, 24)):
            rows = rooted_systems(k, d, ())
            self.assertEqual(len(rows), hall_number(k, d))
            self.assertEqual(list(rows), sorted(set(rows)))
            for T in rows[:: max(1, len(rows) // 40)]:
                self.assertEqual(rooted_by_hand(T), T)
        self.assertEqual(len(rooted_systems(2, 6, ((1, 2, -1, -2),))), 12)
        self.assertEqual(len(rooted_systems(2, 6, ((1, 1), (2, 2, 2)))), 22)
        self.assertEqual(len(rooted_systems(12, 2, (tuple(range(1, 13)),))), 2047)
        self.assertEqual(rooted_systems(1, 24, ((1,) * 23,)), ())
        self.assertEqual(rooted_systems(2, 6, ((1, 2, -2, -1) * 500,)), rooted_systems(2, 6, ()))

    def test_refused(self):
        for k, d in ((2, 7), (3, 5), (4, 4), (6, 3), (12, 3), (12, 24)):
            self.assertGreater(hall_number(k, d), 20000)
            refused(self, "large", rooted_systems, k, d, ())
            malformed(self, rooted_systems, (k, d, None), (k, d, ((13,),)), (k, d, [()]), (k, d, ((True,),)))

    def test_wrong(self):
        malformed_in_each_place(self, rooted_systems, (2, 2, ((1, 2),)), [
            lambda v: whole(v) and 2 <= v <= 12, lambda v: whole(v) and 1 <= v <= 24,
            lambda v: isinstance(v, tuple) and all(word(w, 2) for w in v)])
        malformed(self, rooted_systems, (2, 2, ((1,) * 2001,)), (2, 2, ((3,),)), (2, 2, (1, 2)), (2, 2, [(1, 2)]))


def random_words(source, k, many, longest):
    return tuple(tuple(source.choice(letters_of(k)) for _ in range(source.randint(0, longest))) for _ in range(many))


class Folding(unittest.TestCase):
    def rows(self):
        source = random.Random(44)
        rows = []
        for _ in range(120):
            k = source.randint(1, 3)
            rows.append((k, random_words(source, k, source.randint(0, 4), 7)))
        return rows + [(1, ()), (12, ()), (2, ((),)), (2, ((1, -1), ())), (1, ((1, 1), (1, 1, 1))), (2, ((1,), (2,)))]

    def test_form(self):
        for k, words in self.rows():
            n, arcs = folded_system(k, words)
            self.assertEqual(list(arcs), sorted(set(arcs)))
            self.assertTrue(all(0 <= x < n and 1 <= i <= k and 0 <= y < n for x, i, y in arcs))
            self.assertEqual(len({(x, i) for x, i, _ in arcs}), len(arcs))
            self.assertEqual(len({(i, y) for _, i, y in arcs}), len(arcs))
            for w in words:
                self.assertTrue(leads_back(arcs, reduced(w)))
            # The points come in the order of their least words.
            order, at = [0], 0
            while at < len(order):
                for i in letters_of(k):
                    for x, j, y in arcs:
                        z = y if (x, j) == (order[at], i) else x if (y, -j) == (order[at], i) else None
                        if z is not None and z not in order:
                            order.append(z)
                at += 1
            self.assertEqual(order, list(range(n)))
            # But for 0 no point has an arc alone.
            for x in range(1, n):
                self.assertGreater(sum((a == x) + (b == x) for a, _, b in arcs), 1)
            self.assertEqual(subgroup_rank(k, words), len(arcs) - n + 1)
            self.assertEqual(subgroup_index(k, words), n if len(arcs) == n * k else None)

    def test_members(self):
        source = random.Random(45)
        for k, words in self.rows():
            _, arcs = folded_system(k, words)
            for _ in range(6):
                w = ()
                for _ in range(source.randint(0, 5)):
                    if words:
                        v = source.choice(words)
                        w += v if source.random() < 0.5 else inverse_word(v, k)
                self.assertIs(is_in_subgroup(k, words, w), True)
            for w in random_words(source, k, 20, 6):
                self.assertIs(is_in_subgroup(k, words, w), leads_back(arcs, reduced(w)))

    def test_members_by_trying(self):
        # All products of few of the words: what is short and in the subgroup is among them here.
        for words in (((1, 2), (1, -2)), ((1, 1), (2, 1, -2)), ((1, 2, 1),), ((2, 2), (1, 1), (1, 2, 1, 2))):
            makers = [reduced(w) for w in words] + [inverse_word(reduced(w), 2) for w in words]
            found = {()}
            for _ in range(5):
                found |= {reduced(v + w) for v in found for w in makers}
            for w in words_to(2, 4):
                self.assertIs(is_in_subgroup(2, words, w), reduced(w) in found, (words, w))

    def test_schreier_words_make_the_told_system(self):
        source = random.Random(46)
        for T in random_systems(47, 40, 6, 3, connected) + [S]:
            if not T[1]:
                continue
            k = len(T[1])
            words = schreier_words(T, 0)
            told = rooted_told(T, 0)
            arcs = tuple(sorted((x, i + 1, p[x]) for i, p in enumerate(told[1]) for x in range(T[0])))
            self.assertEqual(folded_system(k, words), (T[0], arcs))
            self.assertEqual(subgroup_index(k, words), T[0])
            self.assertEqual(subgroup_rank(k, words), T[0] * (k - 1) + 1)
            for w in random_words(source, k, 10, 8):
                self.assertIs(is_in_subgroup(k, words, w), walk(T, 0, w) == 0)
            if len(words) > 1:
                self.assertIs(same_subgroup(k, words, words[:-1]), False)
            self.assertIs(same_subgroup(k, words, words[::-1] + (words[0] + words[-1],)), True)

    def test_same(self):
        source = random.Random(48)
        for k, words in self.rows():
            longer = words + tuple(v + w for v in words for w in words[:1]) + ((),)
            self.assertIs(same_subgroup(k, words, longer), True)
            turned = tuple(inverse_word(w, k) for w in words[::-1])
            self.assertIs(same_subgroup(k, words, turned), True)
            self.assertEqual(folded_system(k, words), folded_system(k, turned))
            others = random_words(source, k, 2, 5)
            alike = all(is_in_subgroup(k, words, w) for w in others) and all(is_in_subgroup(k, others, w) for w in words)
            self.assertIs(same_subgroup(k, words, others), alike)

    def test_empty_words(self):
        for words in ((), ((),), ((1, -1),), ((1, 2, -2, -1), ())):
            self.assertEqual(folded_system(2, words), (1, ()))
            self.assertEqual((subgroup_rank(2, words), subgroup_index(2, words)), (0, None))
            self.assertIs(is_in_subgroup(2, words, ()), True)
            self.assertIs(is_in_subgroup(2, words, (1, -1)), True)
            self.assertIs(is_in_subgroup(2, words, (1,)), False)
            self.assertIs(same_subgroup(2, words, ()), True)
        self.assertEqual(folded_system(1, ((1,),)), (1, ((0, 1, 0),)))
        self.assertEqual(subgroup_index(1, ((1,),)), 1)
        self.assertIsNone(subgroup_index(2, ((1,),)))

    def test_bounds(self):
        full = ((1,) * 199, (1,) * 201)
        self.assertEqual(folded_system(1, full), (1, ((0, 1, 0),)))
        self.assertEqual(subgroup_index(1, ((1,) * 160, (-1,) * 240)), 80)
        self.assertEqual(folded_system(2, ((1, 2) * 200,))[0], 400)
        self.assertEqual(folded_system(12, ((12, -12) * 200,)), (1, ()))
        self.assertIs(is_in_subgroup(1, full, (1,) * 2000), True)
        mixed = tuple((i, j) for i in range(1, 13) for j in range(1, 13))
        self.assertEqual(subgroup_index(12, mixed), 2)
        self.assertIs(same_subgroup(12, mixed, mixed[::-1]), True)
        long = tuple(random.Random(49).choice(letters_of(2)) for _ in range(400))
        self.assertIs(is_in_subgroup(2, (long,), long + long), True)

    def test_above_the_bounds(self):
        for words in (((1,) * 401,), ((1,) * 200, (1, -1) * 100 + (2,)), ((1, -1) * 201,), ((1,),) * 401):
            refused(self, "large", folded_system, 2, words)
            refused(self, "large", subgroup_rank, 2, words)
            refused(self, "large", subgroup_index, 2, words)
            refused(self, "large", is_in_subgroup, 2, words, (1,))
            refused(self, "large", same_subgroup, 2, words, ())
            refused(self, "large", same_subgroup, 2, (), words)
            malformed(self, folded_system, (2, words + ((3,),)), (0, words), (2, list(words)), (2, words + (None,)))
            malformed(self, is_in_subgroup, (2, words, (3,)), (2, words, None), (True, words, ()))
            malformed(self, same_subgroup, (2, words, None), (2, None, words), (2, words, ((0,),)))

    def test_wrong(self):
        def fits(value):
            return isinstance(value, tuple) and all(word(w, 2) for w in value)

        def letters(value):
            return whole(value) and 2 <= value <= 12
        good = ((1, 2), (1, -2))
        for function in (folded_system, subgroup_rank, subgroup_index):
            malformed_in_each_place(self, function, (2, good), [letters, fits])
            malformed(self, function, (13, ()), (0, ()), (2, ((1,) * 2001,)), (1, good))
        malformed_in_each_place(self, is_in_subgroup, (2, good, (2,)), [letters, fits, lambda v: word(v, 2)])
        malformed_in_each_place(self, same_subgroup, (2, good, good), [letters, fits, fits])
        malformed(self, is_in_subgroup, (2, good, (1,) * 2001), (2, good, [1]), (0, (), ()), (13, (), ()), (True, (), ()))
        malformed(self, same_subgroup, (0, (), ()), (13, (), ()), (True, (), ()), (None, (), ()), (-1, (), ()))


if __name__ == "__main__":
    unittest.main()
