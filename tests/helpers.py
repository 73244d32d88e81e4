"""What several tests use: values of all kinds, small systems, and groups by lists."""

import itertools
import random

from branchsheets.console import Console
from branchsheets.errors import Malformed, NoText, Refused
from branchsheets.replies import Reply


def nested(depth, kind):
    value = kind()
    for _ in range(depth - 1):
        value = kind([value])
    return value


# Values of every kind that the document names; most of them fit no place.
VALUES = [
    None, True, False, 0, 1, -1, 2, 3, 7, 12, 13, 25, 10 ** 60, -10 ** 60,
    "", "0", "1", "-0", "a", "abc", "letter",
    (), (0,), (1,), (-1,), (2, 1), (1, 2), (0, 1), (1, 0), (0, 0), (0, 1, 2), (1, 1, 1), (3, 1), (0, 2),
    [], [0], [1], [0, 1], [2, 1], [(0, 1)], [[0], [1]],
    (True,), (False,), (False, True), (True, False), (True, 1), (1, True), (0, True), (False, 1), ("0",), (None,),
    ((),), ((0,),), ((0, 1),), ((1, 0),), ((0, 1), (1, 0)), ((True, False),), ([0, 1],), ((0, 1), [0, 1]),
    (0, ()), (0, ((),)), (1, ()), (1, ((0,),)), (1, [(0,)]), [1, ((0,),)], (2, ((1, 0),)), (2, ([1, 0],)),
    (2, ((True, False),)), (True, ((0,),)), (2, ((1, 1),)), (2, ((0, 2),)), (3, ((1, 0),)), (-1, ()), (25, ()),
    (2, ()), (2, ((1, 0), (1, 0))), ("2", ((1, 0),)), (2, "ab"), (2, None), (1, ((False,),)), (2, ((1, 0),), 0),
    (24, ((0,) * 24,)), (10 ** 60, ()), (1, ((0,),) * 13),
    nested(60, tuple), nested(60, list), (nested(59, tuple),), Malformed("x"), Refused("large"), NoText(0),
    (Malformed("x"), 1), (1, (2, (3,))), Reply("a", "b", (1,)), Console(), (Reply("alike"), (0,)), ("alike", Console()),
]


def refused(case, reason, function, *args):
    with case.assertRaises(Refused) as caught:
        function(*args)
    case.assertEqual(caught.exception.reason, reason)


def malformed_in_each_place(case, function, good, fits):
    """Each value that does not fit its place, beside good arguments, must be Malformed."""
    function(*good)
    for place, fit in enumerate(fits):
        for value in VALUES:
            if not fit(value):
                args = list(good)
                args[place] = value
                with case.assertRaises(Malformed, msg=f"{function.__name__} {place} {value!r}"):
                    function(*args)


def malformed(case, function, *rows):
    for args in rows:
        with case.assertRaises(Malformed, msg=f"{function.__name__} {args!r}"):
            function(*args)


def whole(value):
    return isinstance(value, int) and not isinstance(value, bool)


def permutation(value):
    return isinstance(value, tuple) and all(whole(x) for x in value) and sorted(value) == list(range(len(value)))


def partition(value):
    return isinstance(value, tuple) and all(whole(x) and x > 0 for x in value) and list(value) == sorted(value)[::-1]


def system(value):
    if not (isinstance(value, tuple) and len(value) == 2 and whole(value[0]) and 0 <= value[0] <= 24):
        return False
    d, perms = value
    return isinstance(perms, tuple) and len(perms) <= 12 and all(permutation(p) and len(p) == d for p in perms)


def word(value, k):
    return isinstance(value, tuple) and len(value) <= 2000 and all(whole(i) and 0 < abs(i) <= k for i in value)


def is_sheet_below(d):
    return lambda value: whole(value) and 0 <= value < d


def mul(p, q):
    return tuple(q[x] for x in p)


def inv(p):
    return tuple(p.index(x) for x in range(len(p)))


def all_permutations(d):
    return list(itertools.permutations(range(d)))


def group_list(d, perms):
    """All products of some permutations, by trying."""
    start = tuple(range(d))
    found = {start}
    waiting = [start]
    while waiting:
        g = waiting.pop()
        for p in perms:
            h = mul(g, p)
            if h not in found:
                found.add(h)
                waiting.append(h)
    return found


def orbit_of(perms, x):
    """The set of the sheets to which words lead x."""
    seen = {x}
    while True:
        more = seen | {p[y] for p in perms for y in seen} | {p.index(y) for p in perms for y in seen}
        if more == seen:
            return seen
        seen = more


def parts_by_trying(S):
    d, perms = S
    return tuple(sorted({tuple(sorted(orbit_of(perms, x))) for x in range(d)}))


def connected(S):
    return len(parts_by_trying(S)) == 1


def letters_of(k):
    return [sign * i for i in range(1, k + 1) for sign in (1, -1)]


def words_to(k, length):
    """All words of k letters up to a length, in the order of words."""
    rows = [()]
    for n in range(1, length + 1):
        rows.extend(itertools.product(letters_of(k), repeat=n))
    return rows


def walk(S, x, w):
    for i in w:
        p = S[1][abs(i) - 1]
        x = p[x] if i > 0 else p.index(x)
    return x


def random_permutation(source, d):
    row = list(range(d))
    source.shuffle(row)
    return tuple(row)


def random_systems(seed, many, most_sheets, most_letters, want=None):
    """Systems of a fixed seed, those that are wanted."""
    source = random.Random(seed)
    rows = []
    while len(rows) < many:
        d, k = source.randint(1, most_sheets), source.randint(0, most_letters)
        S = (d, tuple(random_permutation(source, d) for _ in range(k)))
        if want is None or want(S):
            rows.append(S)
    return rows


def closed_up(S):
    """The system with one permutation more, so that the product leaves all sheets."""
    d, perms = S
    product = tuple(range(d))
    for p in perms:
        product = mul(product, p)
    return (d, perms + (inv(product),))


def cycle_row(d):
    return tuple((x + 1) % d for x in range(d))


def swap_row(d, a, b):
    return tuple(b if x == a else a if x == b else x for x in range(d))


# All permutations of 24 sheets, and all even ones.
ALL_24 = (24, (cycle_row(24), swap_row(24, 0, 1)))
EVEN_24 = (24, ((1, 2, 0) + tuple(range(3, 24)), (0,) + tuple(range(2, 24)) + (1,)))


def partitions_by_trying(d, most=None):
    """All partitions of d, ascending."""
    if d == 0:
        return [()]
    most = d if most is None else min(d, most)
    return [(first,) + rest for first in range(1, most + 1) for rest in partitions_by_trying(d - first, first)]


def lengths(p):
    """The cycle type, by walking."""
    seen, rows = set(), []
    for x in range(len(p)):
        many = 0
        while x not in seen:
            seen.add(x)
            x, many = p[x], many + 1
        if many:
            rows.append(many)
    return tuple(sorted(rows, reverse=True))


def of_type(mu):
    return [p for p in all_permutations(sum(mu)) if lengths(p) == mu]


def all_swaps(d):
    return [swap_row(d, a, b) for a in range(d) for b in range(a + 1, d)]


def joins_all(d, perms):
    """True if the permutations lead each sheet to each other one; never for no sheets."""
    return d > 0 and len(orbit_of(perms, 0)) == d


def product_by_walking(d, perms):
    product = tuple(range(d))
    for p in perms:
        product = mul(product, p)
    return product


def commutator(a, b):
    return mul(mul(a, b), mul(inv(a), inv(b)))


def rows_by_walking(h, d, kinds):
    """All rows of 2 h permutations and one of each kind whose product, with commutators, leaves all sheets."""
    handles = itertools.product(all_permutations(d), repeat=2 * h)
    unit = tuple(range(d))
    for front in handles:
        start = product_by_walking(d, [commutator(front[2 * i], front[2 * i + 1]) for i in range(h)])
        for row in itertools.product(*kinds):
            if mul(start, product_by_walking(d, row)) == unit:
                yield front + row


def partition_of(d):
    return lambda value: partition(value) and sum(value) == d
