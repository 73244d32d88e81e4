"""The judges of the papers of members, orders, words of a free group, indexes, and links."""

from branchsheets.echelons import is_regular
from branchsheets.foldings import led_along
from branchsheets.grouppapers import demand_index, demand_member, demand_product
from branchsheets.ladders import ladder_levels, levels_order, sifts_to_one, slate_perms
from branchsheets.paperforms import are_integers, is_form, is_place, is_tuple_of
from branchsheets.permutations import is_permutation
from branchsheets.plainperms import unit_of
from branchsheets.schreierwords import told_words
from branchsheets.slates import slate_things
from branchsheets.systems import demand_rank, demand_system, is_word
from branchsheets.walks import letter_rows, opposite_word, reached_from, reduced, walked, word_row
from branchsheets.whole import is_integer, is_ratio, least_common

LONGEST_ROW = 4000
MOST_POINTS = 1000
LONGEST_UNLIKE = 400


def takes_member(S, p, paper):
    """True if the paper shows that a permutation is a member, or that it is none."""
    demand_member(S, p)
    if is_form(paper, "slate", 1):
        perms = slate_perms(S, paper[1])
        return perms is not None and p == (perms[-1] if perms else unit_of(S[0]))
    if is_form(paper, "ladder", 1):
        levels = ladder_levels(S, paper[1])
        return levels is not None and not sifts_to_one(levels, 0, p)
    return False


def takes_order(S, paper):
    """True if the paper shows the order of the group."""
    demand_system(S)
    if not (is_form(paper, "order", 2) and is_integer(paper[1])):
        return False
    levels = ladder_levels(S, paper[2])
    return levels is not None and paper[1] == levels_order(levels)


def _joined_words(one, two):
    """The reduced form of two reduced words, one behind the other; None if it is too long for a row."""
    at = 0
    while at < min(len(one), len(two)) and one[-1 - at] == -two[at]:
        at += 1
    if len(one) + len(two) - 2 * at > LONGEST_ROW:
        return None
    return one[:len(one) - at] + two[at:]


def _slate_words(words, slate):
    """The list of the reduced words for which the rows of a word slate stand; None if the value is none."""
    letters = {j + 1: reduced(w) for j, w in enumerate(words)}
    return slate_things(slate, letters, opposite_word, _joined_words)


def _are_perms(perms, k, n):
    """True if the value is a tuple of k permutations of n sheets, from 1 to 1000."""
    if not (is_integer(n) and 1 <= n <= MOST_POINTS and is_tuple_of(perms, k)):
        return False
    return all([is_permutation(p) and len(p) == n for p in perms])


def _are_closed(perms, words):
    """True if all words lead the sheet 0 to itself."""
    rows = letter_rows(perms)
    return all([walked(rows, 0, w) == 0 for w in words])


def takes_product(k, words, w, paper):
    """True if the paper shows that some words make a word, or that they do not."""
    demand_product(k, words, w)
    if is_form(paper, "product", 1):
        things = _slate_words(words, paper[1])
        return things is not None and reduced(w) == (things[-1] if things else ())
    if is_form(paper, "sheets", 2):
        _, n, perms = paper
        return _are_perms(perms, k, n) and _are_closed(perms, words) and not _are_closed(perms, (w,))
    return False


def _are_picked(words, things, picks):
    """True if the picks are the places of some words among the things, one for each."""
    if not (are_integers(picks, len(words)) and all([is_place(i, len(things)) for i in picks])):
        return False
    return all([things[i] == w for i, w in zip(picks, words)])


def _shows_index(k, words, S, slate, picks):
    if not (is_tuple_of(S, 2) and _are_perms(S[1], k, S[0]) and len(reached_from(S[1], 0)) == S[0]):
        return False
    things = _slate_words(words, slate)
    if things is None or not _are_closed(S[1], words):
        return False
    return _are_picked(list(told_words(S[0], S[1], 0).values()), things, picks)


def _is_arc(value, k, n):
    if not are_integers(value, 3):
        return False
    x, i, y = value
    return 0 <= x < n and 1 <= i <= k and 0 <= y < n


def _arrows_of(k, n, arcs):
    """For each point a dict from the letters that lead from it to points; None if it is no partial system."""
    if not (is_integer(n) and 1 <= n <= MOST_POINTS and isinstance(arcs, tuple)):
        return None
    if not all([_is_arc(arc, k, n) for arc in arcs]):
        return None
    if not all([arcs[at] < arcs[at + 1] for at in range(len(arcs) - 1)]):
        return None
    arrows = [{} for _ in range(n)]
    for x, i, y in arcs:
        if i in arrows[x] or -i in arrows[y]:
            return None
        arrows[x][i] = y
        arrows[y][-i] = x
    return arrows if _all_reached(arrows) else None


def _all_reached(arrows):
    """True if words lead 0 to each point."""
    seen = {0: True}
    waiting = [0]
    while waiting:
        for y in arrows[waiting.pop()].values():
            if y not in seen:
                seen[y] = True
                waiting.append(y)
    return len(seen) == len(arrows)


def _shows_loose(k, words, n, arcs):
    arrows = _arrows_of(k, n, arcs)
    if arrows is None or len(arcs) == n * k:
        return False
    return all([led_along(arrows, 0, reduced(w)) == 0 for w in words])


def takes_index(k, words, paper):
    """True if the paper shows the index of the subgroup that some words make, or that it is not finite."""
    demand_index(k, words)
    if is_form(paper, "index", 3):
        _, S, slate, picks = paper
        return _shows_index(k, words, S, slate, picks)
    if is_form(paper, "loose", 2):
        _, n, arcs = paper
        return _shows_loose(k, words, n, arcs)
    return False


def _has_determinant(table):
    """True if a table of fractions has a determinant other than 0."""
    rows = []
    for row in table:
        # Each row may be taken as often as makes it a row of integers.
        common = 1
        for _, below in row:
            common = least_common(common, below)
        rows.append([above * (common // below) for above, below in row])
    return is_regular(rows)


def _is_link(S, T, value):
    d = S[0]
    if T[0] != d or not is_tuple_of(value, d):
        return False
    if not all([is_tuple_of(row, d) and all([is_ratio(a) for a in row]) for row in value]):
        return False
    for p, q in zip(S[1], T[1]):
        if not all([value[p[x]][q[y]] == value[x][y] for x in range(d) for y in range(d)]):
            return False
    return _has_determinant(value)


def _fixed_by(S, w):
    """The number of the sheets that a word leaves."""
    p = word_row(letter_rows(S[1]), S[0], w)
    return len([x for x in range(S[0]) if p[x] == x])


def takes_linked(S, T, paper):
    """True if the paper shows a link of two systems, or a word that leaves unlike numbers of sheets."""
    demand_rank(S, T)
    if is_form(paper, "linked", 1):
        return _is_link(S, T, paper[1])
    if is_form(paper, "word", 1):
        w = paper[1]
        return is_word(w, len(S[1])) and len(w) <= LONGEST_UNLIKE and _fixed_by(S, w) != _fixed_by(T, w)
    return False
