"""Papers of members, orders, words of a free group, indexes, and links."""

from branchsheets.demands import demand
from branchsheets.echelons import rank_of
from branchsheets.fibreproducts import has_equal_fixed, least_unlike_fixed, product_parts
from branchsheets.finiteindex import demand_few, demand_letters, demand_words, folded_system, is_in_subgroup
from branchsheets.ladders import LadderMaker
from branchsheets.permutations import is_permutation
from branchsheets.schreierwords import told_words
from branchsheets.systems import demand_system, demand_word
from branchsheets.walks import reduced, words_from
from branchsheets.wordfolds import parting_system, WordFold


def demand_member(S, p):
    """Raises Malformed, for every value, if both are not a system and a permutation of its sheets."""
    demand_system(S)
    demand(is_permutation(p) and len(p) == S[0], "permutation of the sheets")


def demand_index(k, words):
    """Raises Malformed, for every value, if both are not a number of letters and a tuple of words of them."""
    demand_letters(k)
    demand_words(words, k)


def demand_product(k, words, w):
    """Raises Malformed, for every value, if w is no word more of the same letters."""
    demand_index(k, words)
    demand_word(w, k)


def member_paper(S, p):
    """A paper that a permutation is a member, or that it is none."""
    demand_member(S, p)
    maker = LadderMaker(S)
    slate = maker.slate_of(p)
    return ("ladder", maker.ladder()) if slate is None else ("slate", slate)


def order_paper(S):
    """A paper of the order of the group."""
    demand_system(S)
    maker = LadderMaker(S)
    return ("order", maker.order(), maker.ladder())


def product_paper(k, words, w):
    """A paper that some words make a word, or that they do not."""
    demand_product(k, words, w)
    demand_few(words + (w,))
    if not is_in_subgroup(k, words, w):
        n, perms = parting_system(k, words, w)
        return ("sheets", n, perms)
    fold = WordFold(words)
    _, number = fold.led_along(0, reduced(w))
    rows, _ = fold.slate.kept_rows([] if number is None else [number])
    return ("product", rows)


def _told_perms(k, n, arcs):
    """The permutations of the letters, where each one leads from each point."""
    images = {(x, letter): y for x, letter, y in arcs}
    return tuple([tuple([images[(x, letter)] for x in range(n)]) for letter in range(1, k + 1)])


def _schreier_numbers(fold, n, perms):
    """The numbers of the rows of the slate of a fold for the Schreier words of its system."""
    numbers = []
    heads = [fold.led_along(0, w) for w in words_from(n, perms, 0)]
    for y, letter in told_words(n, perms, 0):
        point, there = heads[y]
        _, step = fold.led_along(point, (letter,))
        _, back = heads[perms[letter - 1][y]]
        numbers.append(fold.slate.times(fold.slate.times(there, step), fold.slate.turned(back)))
    return numbers


def index_paper(k, words):
    """A paper of the index of the subgroup that some words make, or that it is not finite."""
    demand_index(k, words)
    n, arcs = folded_system(k, words)
    if len(arcs) < n * k:
        return ("loose", n, arcs)
    perms = _told_perms(k, n, arcs)
    fold = WordFold(words)
    numbers = _schreier_numbers(fold, n, perms)
    rows, places = fold.slate.kept_rows(numbers)
    return ("index", (n, perms), rows, tuple([places[i] for i in numbers]))


def _with_part(table, part, many):
    """The table with so many more at the pairs of a part."""
    wider = [list(row) for row in table]
    for x, y in part:
        wider[x][y] += many
    return wider


def _wider_table(table, parts):
    """A table of a greater rank, of which one was more at the pairs of some part; there must be one.

    Rows of matrices with equal traces are turned into each other (Maschke): so what a
    link of less than full rank leaves out can be led to what it does not reach by some
    part, and for all but few multiples of it the rank grows.
    """
    rank = rank_of(table)
    for part in parts:
        for many in range(1, len(table) + 1):
            wider = _with_part(table, part, many)
            if rank_of(wider) > rank:
                return wider
    return table


def _link_of(S, T):
    """A link of two systems with equal numbers of fixed sheets."""
    parts = product_parts(S, T)
    table = [[0] * S[0] for _ in range(S[0])]
    while rank_of(table) < S[0]:
        table = _wider_table(table, parts)
    return tuple([tuple([(n, 1) for n in row]) for row in table])


def linked_paper(S, T):
    """A paper that two systems have a link, or that a word leaves unlike numbers of sheets."""
    if has_equal_fixed(S, T):
        return ("linked", _link_of(S, T))
    return ("word", least_unlike_fixed(S, T))
