"""Subgroups of finite index of a free group: bases, numbers, and foldings."""

from branchsheets.cosettables import told_tables
from branchsheets.demands import demand, demand_within
from branchsheets.errors import Refused
from branchsheets.foldings import arrows_by, led_along
from branchsheets.partitions import centralizer_order, partitions_of
from branchsheets.schreierwords import told_words
from branchsheets.systems import demand_sheet, demand_system, demand_word, is_word, refuse_unconnected
from branchsheets.walks import letter_rows, numbered_in, opposite_word, reduced, walked
from branchsheets.whole import factorial_of, is_integer, raised_to

MOST_LETTERS = 12
MOST_SHEETS = 24
MOST_LISTED = 20000
MOST_FOLDED = 400


def _demand_rooted(S, x):
    demand_system(S)
    demand_sheet(S, x)


def demand_letters(k):
    """Raises Malformed, for every value, if it is no integer from 1 to 12."""
    demand(is_integer(k) and 1 <= k <= MOST_LETTERS, "number of letters")


def _demand_sizes(k, d):
    demand_letters(k)
    demand(is_integer(d) and 1 <= d <= MOST_SHEETS, "number of sheets")


def demand_words(words, k):
    """Raises Malformed, for every value, if it is no tuple of words of k letters."""
    demand(isinstance(words, tuple), "tuple of words")
    demand(all([is_word(w, k) for w in words]), "tuple of words")


def schreier_words(S, x):
    """The tuple of the Schreier words."""
    _demand_rooted(S, x)
    refuse_unconnected(S)
    return tuple(told_words(S[0], S[1], x).values())


def schreier_row(S, x, w):
    """The row of Schreier words and their inverses whose product is a closed word."""
    _demand_rooted(S, x)
    demand_word(w, len(S[1]))
    refuse_unconnected(S)
    rows = letter_rows(S[1])
    if walked(rows, x, w) != x:
        raise Refused("open")
    numbers = {pair: at + 1 for at, pair in enumerate(told_words(S[0], S[1], x))}
    row = []
    for letter in reduced(w):
        before, x = x, rows[letter][x]
        j = numbers.get((before, letter), 0) if letter > 0 else -numbers.get((x, -letter), 0)
        if j != 0:
            row.append(j)
    return tuple(row)


def schreier_word(S, x, row):
    """The reduced word that is the product of a row of Schreier words and their inverses."""
    _demand_rooted(S, x)
    refuse_unconnected(S)
    words = tuple(told_words(S[0], S[1], x).values())
    demand(isinstance(row, tuple), "row of numbers")
    demand(all([is_integer(j) and 0 < abs(j) <= len(words) for j in row]), "row of numbers")
    letters = []
    for j in row:
        letters.extend(words[j - 1] if j > 0 else opposite_word(words[-j - 1]))
    return reduced(letters)


def rooted_told(S, x):
    """The system with its sheets in the order of the least words that lead x to them."""
    _demand_rooted(S, x)
    refuse_unconnected(S)
    rows = letter_rows(S[1])
    order = [x]
    at = 0
    while at < len(order):
        for p in rows.values():
            if p[order[at]] not in order:
                order.append(p[order[at]])
        at += 1
    return numbered_in(S, order)


def hall_number(k, d):
    """The number of the subgroups of the index d of the free group of k letters."""
    _demand_sizes(k, d)
    numbers = []
    for n in range(1, d + 1):
        number = n * raised_to(factorial_of(n), k - 1)
        for j, lesser in enumerate(numbers):
            number -= raised_to(factorial_of(n - j - 1), k - 1) * lesser
        numbers.append(number)
    return numbers[-1]


def transitive_tuples(k, d):
    """The number of the connected systems of d sheets with k permutations."""
    _demand_sizes(k, d)
    return factorial_of(d - 1) * hall_number(k, d)


def _system_classes(k, n):
    """The number of systems of n sheets with k permutations, up to renumbering."""
    return sum([raised_to(centralizer_order(mu), k - 1) for mu in partitions_of(n)])


def cover_classes(k, d):
    """The number of connected systems of d sheets with k permutations, up to renumbering."""
    _demand_sizes(k, d)
    systems = [_system_classes(k, n) for n in range(d + 1)]
    classes = [0] * (d + 1)
    sums = [0] * (d + 1)
    for n in range(1, d + 1):
        lesser = sum([i * classes[i] for i in range(1, n) if n % i == 0])
        rest = sum([sums[j] * systems[n - j] for j in range(1, n)])
        # systems[0] is 1, so what is left of n A(k, n) is the sum over the divisors of n itself.
        sums[n] = n * systems[n] - rest
        classes[n] = (sums[n] - lesser) // n
    return classes[d]


def rooted_systems(k, d, words):
    """The ascending tuple of the told systems of d sheets in which some words leave all sheets."""
    _demand_sizes(k, d)
    demand_words(words, k)
    demand_within(hall_number(k, d), MOST_LISTED, "large")
    return tuple(sorted(told_tables(k, d, words)))


def demand_few(words):
    """Raises Refused if the words have more than 400 letters together."""
    demand_within(sum([len(w) for w in words]), MOST_FOLDED, "large")


def _folded_arrows(k, words):
    demand_letters(k)
    demand_words(words, k)
    demand_few(words)
    return arrows_by(words)


def _arc_rows(arrows):
    rows = [(x, letter, y) for x, ahead in enumerate(arrows) for letter, y in ahead.items() if letter > 0]
    return tuple(sorted(rows))


def folded_system(k, words):
    """The folded system of the words: its number of points, and its arcs."""
    arrows = _folded_arrows(k, words)
    return (len(arrows), _arc_rows(arrows))


def subgroup_rank(k, words):
    """The number of words in a basis of the subgroup."""
    n, arcs = folded_system(k, words)
    return len(arcs) - n + 1


def subgroup_index(k, words):
    """The index of the subgroup, or None if it is not finite."""
    n, arcs = folded_system(k, words)
    return n if len(arcs) == n * k else None


def is_in_subgroup(k, words, w):
    """True if w is in the subgroup that the words make."""
    demand_letters(k)
    demand_words(words, k)
    demand_word(w, k)
    demand_few(words)
    return led_along(arrows_by(words), 0, reduced(w)) == 0


def same_subgroup(k, words, others):
    """True if both tuples of words make the same subgroup."""
    demand_letters(k)
    demand_words(words, k)
    demand_words(others, k)
    demand_few(words)
    demand_few(others)
    return arrows_by(words) == arrows_by(others)
