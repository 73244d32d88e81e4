"""Points 16.1 to 16.5: braids, and the curves of Hurwitz."""

import itertools
import random
import unittest
from unittest import mock

from branchsheets import braids
from branchsheets.braids import braid_move, braid_orbit, braided_row, class_orbit, curve_system, joining_word
from branchsheets.braids import sorted_row, sorting_word, swap_counts
from branchsheets.systems import genus_of, is_cover, is_system, least_system, renumbered_system
from helpers import VALUES, all_permutations, all_swaps, closed_up, connected, cycle_row, inv, joins_all, lengths
from helpers import malformed, malformed_in_each_place, mul, parts_by_trying, permutation, product_by_walking
from helpers import random_permutation, random_systems, refused, swap_row, system, whole

FOUR = ((1, 0, 2), (1, 0, 2), (2, 1, 0), (2, 1, 0))


def moved(row, i):
    """Point 16.1."""
    at = abs(i) - 1
    p, q = row[at], row[at + 1]
    pair = (q, mul(mul(inv(q), p), q)) if i > 0 else (mul(mul(p, q), inv(p)), p)
    return row[:at] + pair + row[at + 2:]


def moved_along(row, word):
    for i in word:
        row = moved(row, i)
    return row


def orbit_by_walking(row):
    found, waiting = {row}, [row]
    while waiting:
        one = waiting.pop()
        for i in range(1, len(row)):
            for ahead in (moved(one, i), moved(one, -i)):
                if ahead not in found:
                    found.add(ahead)
                    waiting.append(ahead)
    return tuple(sorted(found))


def classes_by_walking(S):
    start = least_system(S)
    found, waiting = {start}, [start]
    while waiting:
        d, row = waiting.pop()
        for i in range(1, len(row)):
            for ahead in (moved(row, i), moved(row, -i)):
                least = least_system((d, ahead))
                if least not in found:
                    found.add(least)
                    waiting.append(least)
    return tuple(sorted(found))


def is_row(value):
    return (isinstance(value, tuple) and 1 <= len(value) <= 16 and all(permutation(p) for p in value)
            and len({len(p) for p in value}) == 1 and len(value[0]) <= 12)


def is_swap(p):
    return sum(x != y for x, y in enumerate(p)) == 2


def is_swap_row(value):
    return is_row(value) and all(is_swap(p) for p in value)


def random_rows(seed, many, most_sheets, most_permutations):
    source = random.Random(seed)
    rows = []
    for _ in range(many):
        d, r = source.randint(0, most_sheets), source.randint(1, most_permutations)
        rows.append(tuple(random_permutation(source, d) for _ in range(r)))
    return rows


def random_swap_rows(seed, many, most_sheets=12, most_swaps=16):
    source = random.Random(seed)
    rows = []
    for _ in range(many):
        d, r = source.randint(2, most_sheets), source.randint(1, most_swaps)
        rows.append(tuple(swap_row(d, *source.sample(range(d), 2)) for _ in range(r)))
    return rows


def random_word(source, r, many):
    return tuple(source.choice([1, -1]) * source.randint(1, r - 1) for _ in range(many)) if r > 1 else ()


def counts_of(row):
    parts = [part for part in parts_by_trying((len(row[0]), row)) if len(part) > 1]
    return tuple((part, sum(any(p[x] != x for x in part) for p in row)) for part in parts)


def told_by(row):
    """What tells the orbit of a row of swaps."""
    return (len(row), product_by_walking(len(row[0]), row), counts_of(row))


def sorted_by_words(row):
    """Point 16.4, by what is left in the end of point 16.3."""
    d = len(row[0])
    rows = []
    for part, many in counts_of(row):
        p, sheets, behind = product_by_walking(d, row), list(part), []
        while len(sheets) > 2:
            last = sheets.pop()
            x = p[last]
            pair = [swap_row(d, x, last)] if x != last else [swap_row(d, sheets[0], last)] * 2
            behind = pair + behind
            p = mul(p, product_by_walking(d, pair))
            many -= len(pair)
        rows += [swap_row(d, *sheets)] * many + behind
    return tuple(rows)


class Moves(unittest.TestCase):
    def test_moves(self):
        for row in random_rows(1, 60, 6, 6) + random_rows(2, 5, 12, 16):
            for i in range(1, len(row)):
                for sign in (1, -1):
                    told = braid_move(row, sign * i)
                    self.assertEqual(told, moved(row, sign * i))
                    self.assertEqual(braid_move(told, -sign * i), row)
                    d = len(row[0])
                    self.assertEqual(product_by_walking(d, told), product_by_walking(d, row))
                    self.assertEqual(sorted(map(lengths, told)), sorted(map(lengths, row)))
                    self.assertEqual(parts_by_trying((d, told)), parts_by_trying((d, row)))

    def test_words(self):
        source = random.Random(3)
        for row in random_rows(4, 30, 6, 6):
            word = random_word(source, len(row), 30)
            self.assertEqual(braided_row(row, word), moved_along(row, word))
            self.assertEqual(braided_row(row, ()), row)
            back = tuple(-i for i in word[::-1])
            self.assertEqual(braided_row(braided_row(row, word), back), row)

    def test_relations(self):
        for row in random_rows(5, 30, 6, 6):
            r = len(row)
            for i in range(1, r - 1):
                self.assertEqual(braided_row(row, (i, i + 1, i)), braided_row(row, (i + 1, i, i + 1)))
            for i, j in itertools.combinations(range(1, r), 2):
                if j > i + 1:
                    self.assertEqual(braided_row(row, (i, j)), braided_row(row, (j, i)))
            c = product_by_walking(len(row[0]), row)
            told = braided_row(row, tuple(range(1, r)) * r)
            self.assertEqual(told, tuple(mul(mul(inv(c), p), c) for p in row))

    def test_long_words(self):
        source = random.Random(6)
        row = tuple(random_permutation(source, 12) for _ in range(16))
        word = random_word(source, 16, 20000)
        back = tuple(-i for i in word[::-1])
        self.assertEqual(braided_row(row, word + back), row)
        self.assertEqual(len(word + back), 40000)
        malformed(self, braided_row, (row, word + back + (1,)), (row, (1,) * 40001), (row[:1], (1,)))

    def test_edges(self):
        self.assertEqual(braided_row(((),), ()), ((),))
        self.assertEqual(braid_move(((), ()), 1), ((), ()))
        self.assertEqual(braided_row(((1, 0),), ()), ((1, 0),))
        malformed(self, braid_move, (((1, 0),), 1), (((1, 0),), 0), (((1, 0),) * 2, 2), (((1, 0),) * 2, -2),
                  (((1, 0),) * 2, 0), (((1, 0),) * 2, True))


class Orbits(unittest.TestCase):
    def test_orbits(self):
        for row in random_rows(7, 40, 4, 4) + [FOUR, ((1, 0, 2), (0, 2, 1)), ((), ()), ((0,),)]:
            self.assertEqual(braid_orbit(row), orbit_by_walking(row))

    def test_great_orbits(self):
        # Eight swaps of three sheets: the last one is told by the others, unless all are equal.
        self.assertEqual(len(braid_orbit(FOUR * 2)), 3 ** 7 - 3)
        for d in range(2, 7):
            chain = tuple(swap_row(d, x, x + 1) for x in range(d - 1))
            self.assertEqual(len(braid_orbit(chain)), d ** d // d ** 2)
        # 8^6 rows have the long cycle as their product.
        eight = tuple(swap_row(8, 0, x) for x in range(1, 8))
        refused(self, "many", braid_orbit, eight)
        unit = tuple(range(8))
        self.assertEqual(braid_orbit((unit,) * 8), ((unit,) * 8,))

    def test_most(self):
        self.assertEqual((braids.MOST_ROWS, braids.MOST_CLASSES, braids.MOST_CURVE_SHEETS), (20000, 4000, 24))
        for name, most, function, value in (("MOST_ROWS", 24, braid_orbit, FOUR),
                                            ("MOST_CLASSES", 4, class_orbit, (3, FOUR)),
                                            ("MOST_CURVE_SHEETS", 4, curve_system, (3, FOUR))):
            with mock.patch.object(braids, name, most):
                function(value)
            with mock.patch.object(braids, name, most - 1):
                refused(self, "many", function, value)

    def test_orbit_refused(self):
        refused(self, "large", braid_orbit, (tuple(range(9)),))
        refused(self, "large", braid_orbit, ((0, 1),) * 9)
        refused(self, "large", braid_orbit, (tuple(range(12)),) * 16)
        source = random.Random(8)
        refused(self, "many", braid_orbit, tuple(random_permutation(source, 8) for _ in range(8)))

    def test_class_orbits(self):
        for S in random_systems(9, 40, 5, 4, lambda T: connected(T) and T[1] != ()):
            if len(S[1]) < 4 or S[0] < 5:
                self.assertEqual(class_orbit(S), classes_by_walking(S))
        self.assertEqual(len(class_orbit((3, FOUR))), 4)
        self.assertEqual(class_orbit((1, ((0,),) * 8)), ((1, ((0,),) * 8),))
        self.assertEqual(class_orbit((10, (cycle_row(10),))), ((10, (cycle_row(10),)),))

    def test_class_orbits_and_orbits(self):
        for row in (FOUR, FOUR + FOUR[:2], ((1, 0, 2, 3), (1, 2, 0, 3), (0, 1, 3, 2))):
            d = len(row[0])
            classes = {least_system((d, one)) for one in braid_orbit(row)}
            self.assertEqual(class_orbit((d, row)), tuple(sorted(classes)))
            f = random_permutation(random.Random(10), d)
            self.assertEqual(class_orbit(renumbered_system((d, row), f)), class_orbit((d, row)))

    def test_all_covers_with_simple_points(self):
        # Clebsch: the covers with swaps alone are one orbit.
        for d, r in ((2, 4), (3, 4), (3, 6), (4, 6)):
            fronts = itertools.product(all_swaps(d), repeat=r - 1)
            classes = set()
            for front in fronts:
                last = inv(product_by_walking(d, front))
                if is_swap(last) and joins_all(d, front):
                    classes.add(least_system((d, front + (last,))))
            self.assertEqual(class_orbit(min(classes)), tuple(sorted(classes)))

    def test_class_refused(self):
        refused(self, "large", class_orbit, (11, (cycle_row(11),)))
        refused(self, "large", class_orbit, (24, (cycle_row(24),) * 12))
        refused(self, "large", class_orbit, (2, ((1, 0),) * 9))
        source = random.Random(11)
        refused(self, "many", class_orbit, (10, (cycle_row(10),) + tuple(random_permutation(source, 10)
                                                                         for _ in range(7))))
        malformed(self, class_orbit, ((1, ()),), ((2, ((0, 1),)),), ((0, ((),)),), ((11, (tuple(range(11)),)),))


class Sorting(unittest.TestCase):
    def test_sorted(self):
        rows = random_swap_rows(12, 400) + random_swap_rows(13, 200, 4, 16) + random_swap_rows(14, 60, 3, 16)
        rows += [row for r in range(1, 5) for row in itertools.product(all_swaps(3), repeat=r)]
        for row in rows:
            told = sorted_row(row)
            self.assertEqual(told, sorted_by_words(row))
            word = sorting_word(row)
            self.assertTrue(isinstance(word, tuple) and len(word) <= 20000)
            self.assertTrue(all(whole(i) and 0 < abs(i) < len(row) for i in word))
            self.assertEqual(braided_row(row, word), told)
            self.assertEqual(sorted_row(told), told)
            self.assertEqual(told_by(told), told_by(row))

    def test_greatest(self):
        source = random.Random(15)
        for _ in range(200):
            edges = [(source.randint(0, x - 1), x) for x in range(1, 12)]
            edges += [tuple(sorted(source.sample(range(12), 2))) for _ in range(5)]
            source.shuffle(edges)
            row = tuple(swap_row(12, *edge) for edge in edges)
            word = sorting_word(row)
            self.assertLessEqual(len(word), 20000)
            self.assertEqual(braided_row(row, word), sorted_row(row))

    def test_orbits_are_told(self):
        for d, r in ((3, 1), (3, 2), (3, 3), (3, 4), (4, 3), (4, 4), (5, 2)):
            rows = list(itertools.product(all_swaps(d), repeat=r))
            orbits = {}
            for row in rows:
                orbits.setdefault(told_by(row), []).append(row)
            for row in rows[::17]:
                self.assertEqual(orbit_by_walking(row), tuple(sorted(orbits[told_by(row)])))
                self.assertEqual(braid_orbit(row), tuple(sorted(orbits[told_by(row)])))

    def test_counts(self):
        for row in random_swap_rows(16, 60):
            self.assertEqual(swap_counts(row), counts_of(row))
        self.assertEqual(swap_counts(((1, 0, 2, 3), (0, 1, 3, 2), (1, 0, 2, 3))), (((0, 1), 2), ((2, 3), 1)))

    def test_joining_words(self):
        source = random.Random(17)
        for row in random_swap_rows(18, 100):
            other = moved_along(row, random_word(source, len(row), 100))
            word = joining_word(row, other)
            self.assertTrue(isinstance(word, tuple) and len(word) <= 40000)
            self.assertEqual(braided_row(row, word), other)
        for d, r in ((3, 3), (4, 2), (4, 3)):
            rows = list(itertools.product(all_swaps(d), repeat=r))
            for one, two in itertools.product(rows[::5], rows[::7]):
                word = joining_word(one, two)
                self.assertIs(word is None, told_by(one) != told_by(two))
                if word is not None:
                    self.assertEqual(braided_row(one, word), two)

    def test_no_joining_words(self):
        a, b, c = (1, 0, 2, 3), (0, 1, 3, 2), (0, 2, 1, 3)
        self.assertIs(joining_word((a, a), (b, b)), None)
        # The same product and the same parts, unlike numbers of swaps in them.
        self.assertIs(joining_word((a, a, a, b), (a, b, b, b)), None)
        # The same product, unlike parts.
        self.assertIs(joining_word((a, a, b, b), (a, a, c, c)), None)
        self.assertIs(joining_word((a, b), (b, c)), None)
        self.assertEqual(braided_row((a, b), joining_word((a, b), (b, a))), (b, a))
        malformed(self, joining_word, ((a,), (a, a)), ((a,), ((1, 0, 2),)), ((a, a), (a, (1, 0, 3, 2))), ((), ()),
                  ((a,), [a]), ((a,) * 17, (a,) * 17), ((cycle_row(3),), (cycle_row(3),)))


class Curves(unittest.TestCase):
    def curve(self, S):
        """Point 16.5."""
        start = least_system(S)
        found, waiting = {start}, [start]
        while waiting:
            d, row = waiting.pop()
            for word in ((1, 1), (2, 2), (-1, -1), (-2, -2)):
                ahead = least_system((d, moved_along(row, word)))
                if ahead not in found:
                    found.add(ahead)
                    waiting.append(ahead)
        rows = sorted(found)
        perms = [tuple(rows.index(least_system((d, moved_along(row, word)))) for d, row in rows)
                 for word in ((1, 1), (2, 2))]
        return len(rows), rows, perms

    def test_curves(self):
        systems = [closed_up(S) for S in random_systems(19, 200, 6, 3, lambda T: len(T[1]) == 3)]
        systems = [S for S in systems if is_cover(S)][:60]
        systems += [(3, FOUR), (1, ((0,),) * 4), (2, ((1, 0),) * 4), (2, ((1, 0), (1, 0), (0, 1), (0, 1))),
                    (10, (cycle_row(10), inv(cycle_row(10)), cycle_row(10), inv(cycle_row(10))))]
        many = 0
        for S in systems:
            n, rows, perms = self.curve(S)
            if n > 24:
                refused(self, "many", curve_system, S)
                many += 1
                continue
            told = curve_system(S)
            self.assertEqual(told, (n, tuple(perms) + (inv(mul(*perms)),)))
            self.assertIs(is_system(told) and is_cover(told), True)
            self.assertTrue(genus_of(told) >= 0)
            # The moves 3, 3 do on the classes what 1, 1 does.
            third = tuple(rows.index(least_system((d, moved_along(row, (3, 3))))) for d, row in rows)
            self.assertEqual(third, perms[0])
        self.assertTrue(0 < many < len(systems))

    def test_told(self):
        told = curve_system((3, FOUR))
        self.assertEqual([lengths(p) for p in told[1][:2]], [(3, 1), (3, 1)])
        self.assertEqual(genus_of(told), 0)

    def test_wrong(self):
        open_one = (3, FOUR[:3] + ((1, 0, 2),))
        apart = (4, ((1, 0, 2, 3), (1, 0, 2, 3), (0, 1, 3, 2), (0, 1, 3, 2)))
        malformed(self, curve_system, ((3, FOUR[:2]),), (open_one,), (apart,), ((3, FOUR + FOUR),), ((0, ((),) * 4),),
                  ((1, ()),), ((11, FOUR),))
        for value in VALUES:
            malformed(self, curve_system, (value,))
        eleven = (11, (cycle_row(11), inv(cycle_row(11))) * 2)
        refused(self, "large", curve_system, eleven)
        source = random.Random(20)
        refused(self, "many", curve_system, closed_up((10, (cycle_row(10),) + tuple(random_permutation(source, 10)
                                                                                    for _ in range(2)))))
        unlike = (11, (cycle_row(11), inv(cycle_row(11)), cycle_row(11), cycle_row(11)))
        malformed(self, curve_system, (unlike,))


class Wrong(unittest.TestCase):
    def test_each_place(self):
        move = lambda value: whole(value) and 0 < abs(value) < 4
        word = lambda value: isinstance(value, tuple) and all(whole(i) and 0 < abs(i) < 4 for i in value)
        longer = lambda value: is_row(value) and len(value) > 1
        malformed_in_each_place(self, braid_move, (FOUR, 1), (longer, move))
        malformed_in_each_place(self, braided_row, (FOUR, (1, -2)), (longer, word))
        malformed_in_each_place(self, braid_orbit, (FOUR,), (is_row,))
        fits = lambda value: system(value) and connected(value) and value[1] != ()
        malformed_in_each_place(self, class_orbit, ((3, FOUR),), (fits,))
        for function in (sorted_row, sorting_word, swap_counts):
            malformed_in_each_place(self, function, (FOUR,), (is_swap_row,))
        like_four = lambda value: is_swap_row(value) and len(value) == 4 and len(value[0]) == 3
        malformed_in_each_place(self, joining_word, (FOUR, FOUR), (like_four, like_four))

    def test_rows(self):
        unit = tuple(range(12))
        braid_move((unit,) * 16, 15)
        great = ((unit,) * 17, (tuple(range(13)),), (), [unit], ([0, 1],), ((0, 1), (0, 1, 2)), ((0, True),), ((0, 0),))
        for row in great:
            malformed(self, braid_move, (row, 1))
            malformed(self, braided_row, (row, ()))
            for function in (braid_orbit, sorted_row, sorting_word, swap_counts):
                malformed(self, function, (row,))
        for function in (sorted_row, sorting_word, swap_counts):
            malformed(self, function, ((unit,),), ((cycle_row(3),),), (((1, 0, 3, 2),),), (((),),), (((1, 0), (0, 1)),))
        for p in all_permutations(4):
            if is_swap(p):
                self.assertEqual(sorted_row((p,)), (p,))
                self.assertEqual(sorting_word((p,)), ())


if __name__ == "__main__":
    unittest.main()
